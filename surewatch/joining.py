"""Judges put together by an op, and turned."""

from surewatch.joinchecker import by_op
from surewatch.machines import least_machine

MOST_SPOTS = 300


# A tuple (pairs, nexts, truths): the pairs of spots to which rows lead, as they are come to, where they lead on, and
# what the op says of what both judge there.
def paired(op, one, other):
    pairs = [(0, 0)]
    numbers = {(0, 0): 0}
    nexts = []
    while len(nexts) < len(pairs):
        pair = pairs[len(nexts)]
        leads = []
        for later in zip(one[0][pair[0]], other[0][pair[1]]):
            if later not in numbers:
                numbers[later] = len(pairs)
                pairs.append(later)
            leads.append(numbers[later])
        nexts.append(tuple(leads))
    return (pairs, nexts, [by_op(op, one[1][pair[0]], other[1][pair[1]]) for pair in pairs])


# As least_machine tells it, the groups holding pairs of spots.
def least_joined(op, one, other):
    found = paired(op, one, other)
    least = least_machine(found[1], found[2], MOST_SPOTS)
    groups = [[found[0][number] for number in group] for group in least[2]]
    return (least[0], least[1], groups)


def joined(table, op, one, other):
    least = least_joined(op, one, other)
    return (least[0], least[1])


def turned(table, judge):
    least = least_machine(judge[0], [not truth for truth in judge[1]], MOST_SPOTS)
    return (least[0], least[1])
