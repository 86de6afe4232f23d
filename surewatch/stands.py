"""Stands: which things are ones, trimming, laying sayings, and what is shown, ended and fitted."""

from surewatch.bunches import Marks, laid_marks, marks_show
from surewatch.meaning import truths_of
from surewatch.sayings import is_basic
from surewatch.words import is_tuple


def is_thing(thing):
    return is_tuple(thing, 2, 2) and isinstance(thing[1], bool) and is_basic(thing[0])


def is_bunch(thing):
    return isinstance(thing, tuple) and all([is_thing(part) for part in thing])


def is_stand(thing):
    return isinstance(thing, tuple) and all([is_bunch(bunch) for bunch in thing])


# The same stands come up again and again in great papers; known has what was told of each. It goes by what they are
# written like: a list is found in no dict, and True would be found in the place of 1.
def is_known_stand(thing, known):
    key = repr(thing)
    if key not in known:
        known[key] = is_stand(thing)
    return known[key]


def are_stands(thing, known):
    return isinstance(thing, tuple) and all([is_known_stand(stand, known) for stand in thing])


def trimmed(stand):
    marks = Marks()
    return marks.stand_of(marks.of_stand(stand))


def things_in(stand):
    return sum([len(bunch) for bunch in stand])


def alike(one, other):
    marks = Marks()
    return marks.of_stand(one) == marks.of_stand(other)


def laid(saying, truth):
    marks = Marks()
    return marks.stand_of(laid_marks(marks, saying, truth))


def shows(one, other):
    marks = Marks()
    return marks_show(marks.of_stand(one), marks.of_stand(other))


def bunch_ends(bunch):
    return all([(thing[0][0] in ("always", "each")) == thing[1] for thing in bunch])


def ends(stand):
    return any([bunch_ends(bunch) for bunch in stand])


def fits_bunch(bunch, row, known):
    for thing in bunch:
        if truths_of(thing[0], row, known)[0] != thing[1]:
            return False
    return True


def fits_stand(stand, row):
    known = {}
    return any([fits_bunch(bunch, row, known) for bunch in stand])
