"""What a saying means at each place of a row."""

from surewatch.sayings import put_for
from surewatch.tables import passes


def holds(saying, row, place):
    return truths_of(saying, row, {})[place]


def fits(saying, row):
    return holds(saying, row, 0)


# A list with a truth for each place of the row, the end too. known keeps the lists of this row: one and the same
# saying comes up again and again where numbers are put for variables.
def truths_of(saying, row, known):
    if saying not in known:
        known[saying] = truths_by_head(saying, row, known)
    return known[saying]


def truths_by_head(saying, row, known):
    head = saying[0]
    if head == "yes" or head == "no":
        return [head == "yes"] * (len(row) + 1)
    if head == "now":
        return [passes(saying[1], happening) for happening in row] + [False]
    if head == "each":
        return at_all(at_happenings(saying, row, known))
    if head == "one":
        return at_some(at_happenings(saying, row, known))
    truths = truths_of(saying[-1], row, known)
    if head == "not":
        return turned_truths(truths)
    if head == "next":
        return truths[1:] + [False]
    if head == "always":
        return at_all(truths[:-1])
    if head == "some":
        return at_some(truths[:-1])
    if head == "within":
        return soon(saying[1], truths[:-1])
    ahead = truths_of(saying[1], row, known)
    if head == "both":
        return [one and other for one, other in zip(ahead, truths)]
    if head == "either":
        return [one or other for one, other in zip(ahead, truths)]
    return come_to(ahead[:-1], truths[:-1])


# What the part of an each or a one says at each place but the end. Places with other names don't count: they are
# True for each, which asks it of all, and False for one, which asks it of some.
def at_happenings(saying, row, known):
    truths = []
    for place, happening in enumerate(row):
        if happening[0] == saying[1]:
            part = put_for(saying[3], saying[2], happening[1])
            truths.append(truths_of(part, row, known)[place])
        else:
            truths.append(saying[0] == "each")
    return truths


def turned_truths(truths):
    return [not truth for truth in truths]


# From here on, the lists handed in have no truth for the end; those told have one.
def come_to(stays, comes):
    truths = [False]
    for stay, come in reversed(list(zip(stays, comes))):
        truths.append(come or (stay and truths[-1]))
    truths.reverse()
    return truths


def at_some(truths):
    return come_to([True] * len(truths), truths)


def at_all(truths):
    return turned_truths(at_some(turned_truths(truths)))


def soon(n, truths):
    return [any(truths[place:place + n]) for place in range(len(truths) + 1)]
