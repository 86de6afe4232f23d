"""The small checker of verdicts: it goes on by one happening at a time from the stands told, and searches nothing."""

from surewatch.bunches import laid_marks, marks_show
from surewatch.errors import NoPaper
from surewatch.going import Walker
from surewatch.meaning import fits
from surewatch.stands import ends, is_stand
from surewatch.tables import happenings_of, is_paper_row
from surewatch.words import is_tuple


def is_open_paper(table, thing):
    if not is_tuple(thing, 3, 3) or thing[0] != "open":
        return False
    return is_paper_row(table, thing[1]) and is_paper_row(table, thing[2])


def is_stands(thing):
    return isinstance(thing, tuple) and all([is_stand(stand) for stand in thing])


def is_sure_paper(thing):
    return is_tuple(thing, 2, 2) and thing[0] in ("yes", "no") and is_stands(thing[1])


def lets_verdict(table, saying, row, told):
    if is_open_paper(table, told):
        return lets_open(saying, row, told)
    if not is_sure_paper(told):
        raise NoPaper(-1, "shape")
    return lets_sure(table, saying, row, told[0] == "yes", told[1])


def lets_open(saying, row, told):
    if not fits(saying, tuple(row) + told[1]):
        raise NoPaper(0, "fit")
    if fits(saying, tuple(row) + told[2]):
        raise NoPaper(1, "fit")
    return True


def lets_sure(table, saying, row, truth, stands):
    for k, stand in enumerate(stands):
        if ends(stand) != truth:
            raise NoPaper(k, "end")
    walker = Walker()
    several = [walker.marks.of_stand(stand) for stand in stands]
    for k, marks in enumerate(several):
        for happening in happenings_of(table):
            if not is_held(walker.stand_on(marks, happening), several, truth):
                raise NoPaper(k, "on")
    begin = walker.stand_by(laid_marks(walker.marks, saying, True), row)
    if not is_held(begin, several, truth):
        raise NoPaper(len(stands), "begin")
    return True


# With True some of the several has to show the marks, with False the marks have to show some of them. Papers told
# here mostly have the very marks, so these are looked for first.
def is_held(marks, several, truth):
    if marks in several:
        return True
    for one in several:
        if (truth and marks_show(one, marks)) or (not truth and marks_show(marks, one)):
            return True
    return False
