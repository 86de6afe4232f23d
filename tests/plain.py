"""What DOC.md says of meaning and stands, word by word and without any haste, to hold the program against."""

import itertools
import random

from surewatch.errors import SureError
from surewatch.reading import read_saying
from surewatch.sayings import put_for
from surewatch.tables import happenings_of, passes

TABLE = (("a", 2), ("b", 2))
SMALL = (("a", 1), ("b", 0))
TWO = (("a", 0), ("b", 0))
WIDE = (("a", 5), ("b", 5))
# It meets just three hundred stands by TABLE.
THREE_HUNDRED = read_saying(
    "one a y each b x both each a z either now same 1 now same x till next next now more x now more y")
# It meets one stand more than three hundred by WIDE.
ONE_MORE = read_saying("each b z always till one b x now more x either either always now same 1 within 0 no now same z")
# What the ops say.
OPS = {"both": lambda one, other: one and other, "either": lambda one, other: one or other,
       "but": lambda one, other: one and not other, "unlike": lambda one, other: one != other}
# A thing of each wrong kind, to be put where something else is wanted.
STRANGE = (None, True, False, 0, 1, -1, 7, 10 ** 19, "", "a", "yes", "any", (), [], ((),), [[]], (None,), (True,),
           ("a",), ["a"], ("a", 1), ("yes",), ["yes"], (("yes",),), ((("now", ("any",)), True),), ("now",), (1, 2, 3))


def plain_holds(saying, row, place):
    head = saying[0]
    rest = range(place, len(row))
    if head in ("yes", "no"):
        return head == "yes"
    if head == "now":
        return place < len(row) and passes(saying[1], row[place])
    if head == "not":
        return not plain_holds(saying[1], row, place)
    if head == "both":
        return all(plain_holds(part, row, place) for part in saying[1:])
    if head == "either":
        return any(plain_holds(part, row, place) for part in saying[1:])
    if head == "next":
        return place < len(row) and plain_holds(saying[1], row, place + 1)
    if head == "till":
        return any(plain_holds(saying[2], row, there)
                   and all(plain_holds(saying[1], row, between) for between in range(place, there)) for there in rest)
    if head == "within":
        return any(plain_holds(saying[2], row, there) for there in rest if there < place + saying[1])
    if head == "always":
        return all(plain_holds(saying[1], row, there) for there in rest)
    if head == "some":
        return any(plain_holds(saying[1], row, there) for there in rest)
    told = [plain_holds(put_for(saying[3], saying[2], row[there][1]), row, there)
            for there in rest if row[there][0] == saying[1]]
    return all(told) if head == "each" else any(told)


# A stand as a set of sets of things: the order of things and bunches, and how often they stand there, is gone.
def as_sets(stand):
    return frozenset(frozenset(bunch) for bunch in stand)


def plain_trim(stand):
    sound = [bunch for bunch in as_sets(stand) if not any((basic, not truth) in bunch for basic, truth in bunch)]
    return frozenset(bunch for bunch in sound if not any(other < bunch for other in sound))


def is_trimmed(stand):
    once = all(len(set(bunch)) == len(bunch) for bunch in stand) and len(as_sets(stand)) == len(stand)
    return once and plain_trim(stand) == as_sets(stand)


def pairwise(one, other):
    return [bunch + more for bunch in one for more in other]


def sure(truth):
    return [()] if truth else []


def plain_laid(saying, truth):
    head = saying[0]
    if head in ("yes", "no"):
        return sure((head == "yes") == truth)
    if head == "not":
        return plain_laid(saying[1], not truth)
    if head in ("both", "either"):
        one, other = plain_laid(saying[1], truth), plain_laid(saying[2], truth)
        return pairwise(one, other) if (head == "both") == truth else one + other
    return [((saying, truth),)]


def plain_gone_saying(saying, truth, happening):
    def on(part):
        return plain_gone_saying(part, truth, happening)

    def wide(one, other):
        return one + other if truth else pairwise(one, other)

    def tight(one, other):
        return pairwise(one, other) if truth else one + other

    head, itself = saying[0], plain_laid(saying, truth)
    if head in ("yes", "no"):
        return itself
    if head == "not":
        return plain_gone_saying(saying[1], not truth, happening)
    if head in ("both", "either"):
        return (tight if head == "both" else wide)(on(saying[1]), on(saying[2]))
    if head == "now":
        return sure(passes(saying[1], happening) == truth)
    if head == "next":
        return plain_laid(saying[1], truth)
    if head == "till":
        return wide(on(saying[2]), tight(on(saying[1]), itself))
    if head == "within":
        if saying[1] == 0:
            return sure(not truth)
        if saying[1] == 1:
            return on(saying[2])
        return wide(on(saying[2]), plain_laid(("within", saying[1] - 1, saying[2]), truth))
    if head == "always":
        return tight(on(saying[1]), itself)
    if head == "some":
        return wide(on(saying[1]), itself)
    if happening[0] != saying[1]:
        return itself
    part = on(put_for(saying[3], saying[2], happening[1]))
    return tight(part, itself) if head == "each" else wide(part, itself)


def plain_gone(stand, happening):
    found = []
    for bunch in stand:
        later = [()]
        for basic, truth in bunch:
            later = [tuple(more) for more in plain_trim(pairwise(later, plain_gone_saying(basic, truth, happening)))]
        found += later
    return tuple(tuple(bunch) for bunch in plain_trim(found))


def plain_by(stand, row):
    for happening in row:
        stand = plain_gone(stand, happening)
    return stand


def plain_shows(one, other):
    return all(any(wanted <= bunch for wanted in as_sets(other)) for bunch in plain_trim(one))


def plain_fits_stand(stand, row):
    return any(all(plain_holds(basic, row, 0) == truth for basic, truth in bunch) for bunch in stand)


def plain_ends(stand):
    return plain_fits_stand(stand, ())


def plain_room(stand):
    return sum(len(bunch) for bunch in plain_trim(stand))


# Without a bound on how many there are.
def plain_met(table, stand):
    found = [tuple(tuple(bunch) for bunch in plain_trim(stand))]
    seen = {as_sets(found[0])}
    for one in found:
        for happening in happenings_of(table):
            later = plain_gone(one, happening)
            if as_sets(later) not in seen:
                seen.add(as_sets(later))
                found.append(later)
    return found


# What a call tells, or the class and the fields of its refusal; what is handed in has to stay as it was.
def ask(call, *things):
    before = repr(things)
    try:
        told = call(*things)
    except SureError as error:
        told = (type(error), vars(error))
    if repr(things) != before:
        raise AssertionError(f"{call.__name__} changed what was handed in: {before}")
    return told


# Shorter rows first, then by the table's order.
def rows_up_to(table, most):
    return [row for length in range(most + 1) for row in itertools.product(happenings_of(table), repeat=length)]


def word_by(truths):
    return "yes" if all(truths) else "open" if any(truths) else "no"


# The verdict by each going-on of at most so many happenings, fits(row) telling which rows fit.
def plain_word(table, fits, row, most):
    return word_by([fits(tuple(row) + more) for more in rows_up_to(table, most)])


def plain_led(table, nexts, spot, row):
    for happening in row:
        spot = nexts[spot][happenings_of(table).index(happening)]
    return spot


# The words that a machine tells of each row; rows of one happening less than it has spots part all that can be.
def plain_told(table, machine, spot=0):
    rows = rows_up_to(table, len(machine[0]) - 1)
    return tuple(machine[1][plain_led(table, machine[0], spot, row)] for row in rows)


def plain_reached(nexts):
    found = {0}
    while True:
        more = found | {later for spot in found for later in nexts[spot]}
        if more == found:
            return found
        found = more


# The number of spots of the least machine that tells the same.
def plain_count(table, machine):
    return len({plain_told(table, machine, spot) for spot in plain_reached(machine[0])})


# What 34 tells of numbers: None, or the spot that has a wrong one.
def plain_number(nexts):
    order = [0]
    for spot in order:
        for later in nexts[spot]:
            if later not in order:
                if later != len(order):
                    return later
                order.append(later)
    return None if len(order) == len(nexts) else min(set(range(len(nexts))) - set(order))


# What 34 tells of rows that part: None, or the least spot that is not parted from a lesser one.
def plain_part(table, machine, rows):
    lists = [[machine[1][plain_led(table, machine[0], spot, row)] for row in rows] for spot in range(len(machine[0]))]
    return next((spot for spot in range(len(lists)) if lists[spot] in lists[:spot]), None)


# A judge of two happenings, a ring of spots for the one of the column: spot 0 ends as told, the others otherwise;
# by the other happening it stays.
def ring(count, column=0, truth=True):
    leads = [tuple((spot + 1) % count if at == column else spot for at in range(2)) for spot in range(count)]
    return (tuple(leads), (truth,) + (not truth,) * (count - 1))


# A thing with another one in one place of its tuples: path has the numbers that lead there.
def bent(thing, path, other):
    if not path:
        return other
    return thing[:path[0]] + (bent(thing[path[0]], path[1:], other),) + thing[path[0] + 1:]


# The paths to all things within a thing, itself too.
def paths_in(thing):
    paths = [()]
    if isinstance(thing, tuple):
        for at, part in enumerate(thing):
            paths += [(at,) + path for path in paths_in(part)]
    return paths


# All orders of a round, gone through one by one.
def orders_of(rows):
    hands = [hand for hand, row in enumerate(rows) for _ in row]
    return sorted(set(itertools.permutations(hands)))


def plain_woven(rounds, orders):
    row = []
    for rows, order in zip(rounds, orders):
        left = [list(part) for part in rows]
        row += [left[hand].pop(0) for hand in order]
    return tuple(row)


# The verdict on rounds by all orders gone through one by one, word_of telling the verdict's word on a row.
def plain_verdict(rounds, word_of):
    words = {word_of(plain_woven(rounds, orders))
             for orders in itertools.product(*[orders_of(rows) for rows in rounds])}
    return words.pop() if len(words) == 1 else "open"


def part_at(thing, path):
    for at in path:
        thing = thing[at]
    return thing


# The thing over and over, each time with a list in the place of another one of its tuples.
def with_lists(thing):
    parts = [(path, part_at(thing, path)) for path in paths_in(thing)]
    return [bent(thing, path, list(part)) for path, part in parts if isinstance(part, tuple)]


class Maker:
    """Makes sayings, rows and stands, the same ones for the same seed."""

    def __init__(self, seed):
        self.random = random.Random(seed)
        self.binders = 3

    def pick(self, things):
        return self.random.choice(things)

    def test(self, bound):
        head = self.pick(("any", "name", "less", "same", "more"))
        if head == "any":
            return ("any",)
        if head == "name":
            return ("name", self.pick("ab"))
        return (head, self.pick(bound + (0, 1, 2)))

    def part(self, count, deep, bound):
        if count == 1 or deep == 1:
            return self.pick((("yes",), ("no",)) + 6 * (("now", self.test(bound)),))
        heads = ["not", "next", "within", "always", "some"]
        heads += 2 * ["both", "either", "till"] if count > 2 else []
        heads += ["each", "one"] if self.binders > 0 else []
        head = self.pick(heads)
        if head in ("both", "either", "till"):
            first = self.random.randint(1, count - 2)
            return (head, self.part(first, deep - 1, bound), self.part(count - 1 - first, deep - 1, bound))
        if head == "within":
            return (head, self.random.randint(0, 5), self.part(count - 1, deep - 1, bound))
        if head in ("each", "one"):
            self.binders -= 1
            x = self.pick("xy")
            return (head, self.pick("ab"), x, self.part(count - 1, deep - 1, bound + (x,)))
        return (head, self.part(count - 1, deep - 1, bound))

    def saying(self, most=12):
        self.binders = 3
        return self.part(self.random.randint(1, most), 8, ())

    def basic(self, most=8):
        while True:
            saying = self.saying(most)
            if saying[0] not in ("yes", "no", "not", "both", "either"):
                return saying

    def row(self, table, most):
        happenings = happenings_of(table)
        return tuple(self.pick(happenings) for _ in range(self.random.randint(0, most)))

    # At most so many rounds of at most so many hands, with at most so many happenings in each.
    def rounds(self, table, rounds, hands, most):
        hands = self.random.randint(1, hands)
        told = []
        for _ in range(self.random.randint(0, rounds)):
            rows = [() for _ in range(hands)]
            for happening in self.row(table, most):
                hand = self.random.randrange(hands)
                rows[hand] += (happening,)
            told.append(tuple(rows))
        return tuple(told)

    def nexts(self, table, count):
        return tuple(tuple(self.random.randrange(count) for _ in happenings_of(table)) for _ in range(count))

    def machine(self, table, most, words=(True, False)):
        count = self.random.randint(1, most)
        return (self.nexts(table, count), tuple(self.pick(words) for _ in range(count)))

    # Few basics stand in it over and over, so that voids, things told twice and bunches within others come up.
    def stand(self, bunches=4, things=3):
        basics = [self.basic() for _ in range(3)]
        return tuple(tuple((self.pick(basics), self.pick((True, False))) for _ in range(self.random.randint(0, things)))
                     for _ in range(self.random.randint(0, bunches)))
