"""Tables, their happenings and rows, and the tests that happenings pass."""

from surewatch.words import is_name, is_tuple, is_whole

MOST_NAMES = 4
GREATEST_MOST = 5
MOST_HAPPENINGS = 12
GREATEST_NUMBER = 9


def is_entry(thing):
    return is_tuple(thing, 2, 2) and is_name(thing[0]) and is_whole(thing[1], 0, GREATEST_MOST)


def is_table(thing):
    if not is_tuple(thing, 1, MOST_NAMES) or not all([is_entry(entry) for entry in thing]):
        return False
    names = [entry[0] for entry in thing]
    return len(set(names)) == len(names) and sum([entry[1] + 1 for entry in thing]) <= MOST_HAPPENINGS


def happenings_of(table):
    happenings = []
    for entry in table:
        for k in range(entry[1] + 1):
            happenings.append((entry[0], k))
    return happenings


def is_happening(table, thing):
    if not is_tuple(thing, 2, 2):
        return False
    return any([entry[0] == thing[0] and is_whole(thing[1], 0, entry[1]) for entry in table])


def is_row(table, thing):
    return isinstance(thing, (tuple, list)) and all([is_happening(table, happening) for happening in thing])


# Within papers no list does in the place of a row.
def is_paper_row(table, thing):
    return isinstance(thing, tuple) and is_row(table, thing)


# bound: the variables that may stand in the place of a number.
def is_test_among(thing, bound):
    if not is_tuple(thing, 1, 2):
        return False
    if len(thing) == 1:
        return thing[0] == "any"
    if thing[0] == "name":
        return is_name(thing[1])
    return thing[0] in ("less", "same", "more") and (is_whole(thing[1], 0, GREATEST_NUMBER) or thing[1] in bound)


def is_test(thing):
    return is_test_among(thing, ())


def passes(test, happening):
    head = test[0]
    if head == "any":
        return True
    if head == "name":
        return happening[0] == test[1]
    if head == "less":
        return happening[1] < test[1]
    if head == "same":
        return happening[1] == test[1]
    return happening[1] > test[1]
