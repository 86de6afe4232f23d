"""The small checker of a row that settles a saying, or of stands that show that none does; it searches nothing."""

from surewatch.checker import lets_verdict
from surewatch.errors import NoRing
from surewatch.numbering import Numbering
from surewatch.stands import fits_stand, is_known_stand
from surewatch.tables import happenings_of, is_paper_row
from surewatch.words import is_tuple


def lets_settling(table, saying, told):
    if is_settled(table, told):
        return lets_settled(table, saying, told[1], told[2])
    if not is_never(table, told):
        raise NoRing("shape", 0)
    numbering = Numbering()
    look_at_ring(numbering, table, saying, told[1], True, 0)
    look_at_ring(numbering, table, saying, told[2], False, len(told[1]))
    return True


def is_settled(table, thing):
    return is_tuple(thing, 3, 3) and thing[0] == "settled" and is_paper_row(table, thing[1])


def is_never(table, thing):
    if not is_tuple(thing, 3, 3) or thing[0] != "never":
        return False
    known = {}
    return is_ring(table, thing[1], known) and is_ring(table, thing[2], known)


def is_ring(table, thing, known):
    return isinstance(thing, tuple) and all([is_entry(table, entry, known) for entry in thing])


def is_entry(table, thing, known):
    return is_tuple(thing, 2, 2) and is_known_stand(thing[0], known) and is_paper_row(table, thing[1])


def lets_settled(table, saying, row, verdict):
    if not isinstance(verdict, tuple) or verdict[:1] not in (("yes",), ("no",)):
        raise NoRing("open", 0)
    return lets_verdict(table, saying, row, verdict)


# With True each stand has to be fitted by its row, and to be led on to such as show what it goes on to; with False
# not fitted, and what it goes on to has to show one. Ahead is the number of the first entry.
def look_at_ring(numbering, table, saying, entries, truth, ahead):
    numbers = numbering.of_stands([entry[0] for entry in entries])
    if not numbering.is_held(numbering.of_saying(saying), numbers, truth):
        raise NoRing("begin", ahead)
    happenings = happenings_of(table)
    for place, entry in enumerate(entries):
        if fits_stand(entry[0], entry[1]) != truth:
            raise NoRing("row", ahead + place)
        if not numbering.is_led_on(numbers[place], numbers, happenings, truth):
            raise NoRing("next", ahead + place)
