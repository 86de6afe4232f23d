"""Judges: machines whose spots tell by a truth which rows fit."""

from surewatch.going import meetings
from surewatch.machines import least_machine
from surewatch.spots import columns_of, is_machine
from surewatch.stands import laid
from surewatch.tables import happenings_of


def is_truth(thing):
    return isinstance(thing, bool)


def is_judge(table, thing):
    return is_machine(table, thing, is_truth)


def led(table, nexts, spot, row):
    for column in columns_of(table, row):
        spot = nexts[spot][column]
    return spot


def judged(table, judge, row):
    return judge[1][led(table, judge[0], 0, row)]


# Shorter rows are come to first, and of those of one length the ones that are first in the table's order.
def first_rows(table, nexts):
    happenings = happenings_of(table)
    rows = [None for leads in nexts]
    rows[0] = ()
    found = [0]
    at = 0
    while at < len(found):
        spot = found[at]
        for column, later in enumerate(nexts[spot]):
            if rows[later] is None:
                rows[later] = rows[spot] + (happenings[column],)
                found.append(later)
        at += 1
    return rows


def least_judge(table, judge):
    least = least_machine(judge[0], judge[1], None)
    return (least[0], least[1])


def judge_of(table, saying):
    found = meetings(table, laid(saying, True))
    return least_judge(table, (found[1], found[2]))
