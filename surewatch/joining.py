"""Judges put together by an op, and turned."""

from surewatch.joinchecker import by_op
from surewatch.machines import least_machine, paired

MOST_SPOTS = 300


# As least_machine tells it, the groups holding pairs of spots.
def least_joined(op, one, other):
    found = paired(one[0], other[0])
    truths = [by_op(op, one[1][pair[0]], other[1][pair[1]]) for pair in found[0]]
    least = least_machine(found[1], truths, MOST_SPOTS)
    groups = [[found[0][number] for number in group] for group in least[2]]
    return (least[0], least[1], groups)


def joined(table, op, one, other):
    least = least_joined(op, one, other)
    return (least[0], least[1])


def turned(table, judge):
    least = least_machine(judge[0], [not truth for truth in judge[1]], MOST_SPOTS)
    return (least[0], least[1])
