"""The small checker of verdicts: it goes on by one happening at a time from the stands told, and searches nothing."""

from surewatch.errors import NoPaper
from surewatch.meaning import fits
from surewatch.numbering import Numbering
from surewatch.stands import are_stands, ends
from surewatch.tables import happenings_of, is_paper_row
from surewatch.words import is_tuple


def is_open_paper(table, thing):
    if not is_tuple(thing, 3, 3) or thing[0] != "open":
        return False
    return is_paper_row(table, thing[1]) and is_paper_row(table, thing[2])


def is_sure_paper(thing):
    return is_tuple(thing, 2, 2) and thing[0] in ("yes", "no") and are_stands(thing[1], {})


def lets_verdict(table, saying, row, told):
    if is_open_paper(table, told):
        return lets_open(saying, row, told)
    if not is_sure_paper(told):
        raise NoPaper(-1, "shape")
    return lets_sure(table, saying, row, told[0] == "yes", told[1])


def lets_open(saying, row, told):
    if not fits(saying, tuple(row) + told[1]):
        raise NoPaper(0, "fit")
    if fits(saying, tuple(row) + told[2]):
        raise NoPaper(1, "fit")
    return True


def lets_sure(table, saying, row, truth, stands):
    for k, stand in enumerate(stands):
        if ends(stand) != truth:
            raise NoPaper(k, "end")
    numbering = Numbering()
    numbers = numbering.of_stands(stands)
    happenings = happenings_of(table)
    for k, number in enumerate(numbers):
        if not numbering.is_led_on(number, numbers, happenings, truth):
            raise NoPaper(k, "on")
    begin = numbering.later_by(numbering.of_saying(saying), row)
    if not numbering.is_held(begin, numbers, truth):
        raise NoPaper(len(stands), "begin")
    return True
