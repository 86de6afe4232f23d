"""The small checker of how the rows lie that fit two sayings: it looks at pairs of stands, and searches nothing."""

from surewatch.errors import NoBeside
from surewatch.meaning import fits
from surewatch.numbering import Numbering
from surewatch.stands import are_stands, ends
from surewatch.tables import happenings_of, is_paper_row
from surewatch.words import is_tuple


def pairs_show(table, one, other, pairs):
    return fault_of(Numbering(), table, one, other, pairs) is None


# The word and the number of what is met first that the pairs lack; None where they show it.
def fault_of(numbering, table, one, other, pairs):
    numbers = [(numbering.of_stand(first), numbering.of_stand(second)) for first, second in pairs]
    known = dict([(pair, True) for pair in numbers])
    if not is_held_pair(numbering, numbering.of_saying(one), numbering.of_saying(other), known):
        return ("begin", 0)
    for number, pair in enumerate(pairs):
        if ends(pair[0]) and not ends(pair[1]):
            return ("end", number)
    happenings = happenings_of(table)
    for number, pair in enumerate(numbers):
        for happening in happenings:
            first = numbering.later(pair[0], happening)
            if not is_held_pair(numbering, first, numbering.later(pair[1], happening), known):
                return ("next", number)
    return None


# Pairs told here mostly go on to the very pairs among them, so these are looked for first.
def is_held_pair(numbering, first, second, known):
    if (first, second) in known:
        return True
    for pair in known:
        if numbering.shows_other(first, pair[0]) and numbering.shows_other(pair[1], second):
            return True
    return False


def are_pairs(thing, known):
    return isinstance(thing, tuple) and all([is_tuple(pair, 2, 2) and are_stands(pair, known) for pair in thing])


def is_beside(table, thing):
    if not is_tuple(thing, 3, 3):
        return False
    known = {}
    if thing[0] == "alike":
        return are_pairs(thing[1], known) and are_pairs(thing[2], known)
    if thing[0] == "within" or thing[0] == "around":
        return are_pairs(thing[1], known) and is_paper_row(table, thing[2])
    return thing[0] == "parted" and is_paper_row(table, thing[1]) and is_paper_row(table, thing[2])


def lets_beside(table, one, other, told):
    if not is_beside(table, told):
        raise NoBeside("shape", 0)
    numbering = Numbering()
    if told[0] == "alike":
        look_at_pairs(numbering, table, one, other, told[1], 0)
        look_at_pairs(numbering, table, other, one, told[2], len(told[1]))
    elif told[0] == "within":
        look_at_pairs(numbering, table, one, other, told[1], 0)
        look_at_row(other, one, told[2], 0)
    elif told[0] == "around":
        look_at_pairs(numbering, table, other, one, told[1], 0)
        look_at_row(one, other, told[2], 0)
    else:
        look_at_row(one, other, told[1], 0)
        look_at_row(other, one, told[2], 1)
    return True


def look_at_pairs(numbering, table, one, other, pairs, ahead):
    fault = fault_of(numbering, table, one, other, pairs)
    if fault is not None:
        raise NoBeside(fault[0], ahead + fault[1])


# The row has to fit the one saying, and not the other.
def look_at_row(one, other, row, number):
    if not fits(one, row) or fits(other, row):
        raise NoBeside("row", number)
