"""Sayings: which things are whole ones, what stands in them, and numbers put for their variables."""

from surewatch.tables import is_test_among
from surewatch.words import is_name, is_tuple, is_whole

MOST_SAYINGS = 16
MOST_WITHIN = 8
MOST_BINDERS = 3
GREATEST_WITHIN = 5

LENGTHS = {
    "yes": 1, "no": 1, "now": 2, "not": 2, "both": 3, "either": 3, "next": 2,
    "till": 3, "within": 3, "always": 2, "some": 2, "each": 4, "one": 4,
}
# The parts of a saying that are sayings stand last in its tuple; here is where they begin.
STARTS = {
    "yes": 1, "no": 1, "now": 2, "not": 1, "both": 1, "either": 1, "next": 1,
    "till": 1, "within": 2, "always": 1, "some": 1, "each": 3, "one": 3,
}
BINDERS = ("each", "one")
BASICS = ("now", "next", "till", "within", "always", "some", "each", "one")


def is_head(word):
    return word in LENGTHS


def parts_wanted(head):
    return LENGTHS[head] - STARTS[head]


def parts_of(saying):
    return saying[STARTS[saying[0]]:]


def bound_within(saying, bound):
    if saying[0] in BINDERS:
        return bound + (saying[2],)
    return bound


# Looks at all of a saying but its parts.
def is_shaped(thing, bound):
    if not is_tuple(thing, 1, 4) or not isinstance(thing[0], str):
        return False
    head = thing[0]
    if LENGTHS.get(head, 0) != len(thing):
        return False
    if head == "now":
        return is_test_among(thing[1], bound)
    if head == "within":
        return is_whole(thing[1], 0, GREATEST_WITHIN)
    if head in BINDERS:
        return is_name(thing[1]) and is_name(thing[2])
    return True


# Goes no deeper than room, so that no thing, however deep, is gone through to its bottom.
def is_formed(thing, bound, room):
    if room == 0 or not is_shaped(thing, bound):
        return False
    inner = bound_within(thing, bound)
    return all([is_formed(part, inner, room - 1) for part in parts_of(thing)])


def all_in(saying):
    found = [saying]
    for part in parts_of(saying):
        found.extend(all_in(part))
    return found


def binders_in(saying):
    return len([inner for inner in all_in(saying) if inner[0] in BINDERS])


def is_saying(thing):
    if not is_formed(thing, (), MOST_WITHIN):
        return False
    return size(thing) <= MOST_SAYINGS and binders_in(thing) <= MOST_BINDERS


def is_basic(thing):
    return is_saying(thing) and thing[0] in BASICS


def size(saying):
    return len(all_in(saying))


def depth(saying):
    return 1 + max([depth(part) for part in parts_of(saying)], default=0)


def names_in(saying):
    names = []
    for inner in all_in(saying):
        if inner[0] in BINDERS:
            names.append(inner[1])
        if inner[0] == "now" and inner[1][0] == "name":
            names.append(inner[1][1])
    return sorted(set(names))


# A name test holds a text too, but that is no variable.
def has_variable(test):
    return len(test) == 2 and test[0] != "name" and isinstance(test[1], str)


def unbound_in(saying, bound):
    if saying[0] == "now" and has_variable(saying[1]) and saying[1][1] not in bound:
        return [saying[1][1]]
    found = []
    for part in parts_of(saying):
        found.extend(unbound_in(part, bound_within(saying, bound)))
    return found


def open_in(saying):
    return sorted(set(unbound_in(saying, ())))


def put_for(saying, x, k):
    if saying[0] == "now":
        if has_variable(saying[1]) and saying[1][1] == x:
            return ("now", (saying[1][0], k))
        return saying
    if saying[0] in BINDERS and saying[2] == x:
        return saying
    return saying[:STARTS[saying[0]]] + tuple([put_for(part, x, k) for part in parts_of(saying)])
