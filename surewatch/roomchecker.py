"""The room of a stand, and the small checker of the room of a saying, which searches nothing."""

from surewatch.errors import NoPaper
from surewatch.going import gone_by
from surewatch.numbering import Numbering
from surewatch.stands import are_stands, laid, things_in, trimmed
from surewatch.tables import happenings_of, is_paper_row
from surewatch.words import is_count, is_tuple


def room_of(stand):
    return things_in(trimmed(stand))


def lets_room(table, saying, thing):
    if not is_room(table, thing):
        raise NoPaper(0, "shape")
    for n, stand in enumerate(thing[2]):
        if room_of(stand) > thing[0]:
            raise NoPaper(n, "most")
    look_at_stands(table, saying, thing[2])
    if room_of(gone_by(laid(saying, True), thing[1])) != thing[0]:
        raise NoPaper(0, "row")
    return True


def is_room(table, thing):
    if not is_tuple(thing, 3, 3) or not is_count(thing[0]):
        return False
    return is_paper_row(table, thing[1]) and are_stands(thing[2], {})


def look_at_stands(table, saying, stands):
    numbering = Numbering()
    numbers = numbering.of_stands(stands)
    if numbering.of_saying(saying) not in numbers:
        raise NoPaper(0, "first")
    happenings = happenings_of(table)
    for n, number in enumerate(numbers):
        if not all([numbering.later(number, happening) in numbers for happening in happenings]):
            raise NoPaper(n, "closed")
