import unittest

from surewatch.errors import NoJoin
from surewatch.joinchecker import lets_joined
from surewatch.joining import joined
from surewatch.joinpapers import join_paper
from surewatch.tables import happenings_of
from tests.plain import OPS, STRANGE, TWO, Maker, ask, bent, paths_in, plain_number, plain_part

SOME_A = (((1, 0), (1, 1)), (False, True))
SOME_B = (((0, 1), (1, 1)), (False, True))
BUT = (((1, 2), (1, 2), (2, 2)), (False, True, False))
a, b = ("a", 0), ("b", 0)
BUT_PAPER = ((((0, 0),), ((1, 0),), ((0, 1), (1, 1))), ((), (a,)))


def no_join(word, number):
    return (NoJoin, {"word": word, "number": number})


# What 39 says, word by word, of a paper of the right shape.
def plain_lets(table, op, one, other, judge, paper):
    places, rows = paper
    nexts, ends = judge
    number = plain_number(nexts)
    if number is not None:
        return no_join("number", number)
    if (0, 0) not in places[0]:
        return no_join("begin", 0)
    for spot in range(len(nexts)):
        if any(OPS[op](one[1][pair[0]], other[1][pair[1]]) != ends[spot] for pair in places[spot]):
            return no_join("end", spot)
    for spot in range(len(nexts)):
        for column in range(len(happenings_of(table))):
            for first, second in places[spot]:
                if (one[0][first][column], other[0][second][column]) not in places[nexts[spot][column]]:
                    return no_join("next", spot)
    part = plain_part(table, judge, rows)
    return True if part is None else no_join("part", part)


class Checks(unittest.TestCase):

    def is_told(self, wanted, judge, paper, op="but", one=SOME_A, other=SOME_B):
        wanted = wanted if wanted is True else no_join(wanted[0], wanted[1])
        self.assertEqual(ask(lets_joined, TWO, op, one, other, judge, paper), wanted, (judge, paper))


class LetByTest(Checks):

    def test_each_op(self):
        self.is_told(True, BUT, BUT_PAPER)
        nexts = ((1, 2), (1, 3), (3, 2), (3, 3))
        paper = ((((0, 0),), ((1, 0),), ((0, 1),), ((1, 1),)), ((), (a,), (b,)))
        self.is_told(True, (nexts, (False, False, False, True)), paper, "both")
        self.is_told(True, (nexts, (False, True, True, False)), paper, "unlike")
        paper = ((((0, 0),), ((1, 0), (0, 1), (1, 1))), ((),))
        self.is_told(True, (((1, 1), (1, 1)), (False, True)), paper, "either")

    def test_each_op_wants_its_own(self):
        for op in ("both", "either", "unlike"):
            self.assertNotEqual(ask(lets_joined, TWO, op, SOME_A, SOME_B, BUT, BUT_PAPER), True)
        self.is_told(("end", 1), BUT, BUT_PAPER, "both")
        self.is_told(("end", 2), BUT, BUT_PAPER, "either")
        self.is_told(("end", 2), BUT, BUT_PAPER, "unlike")

    def test_one_spot(self):
        self.is_told(True, (((0, 0),), (False,)), ((((0, 0), (1, 1)),), ()), "but", SOME_A, SOME_A)
        self.is_told(True, (((0, 0),), (True,)), ((((0, 0),),), ((a, b), ())), "unlike", (((0, 0),), (True,)),
                     (((0, 0),), (False,)))

    # Pairs told twice, and a pair that no row leads to.
    def test_more_pairs_than_are_needed(self):
        self.is_told(True, BUT, bent(BUT_PAPER, (0, 0), ((0, 0), (0, 0))))
        wide = (SOME_A[0] + ((1, 2),), SOME_A[1] + (False,))
        more = ((((0, 0), (2, 0)), ((1, 0),), ((0, 1), (1, 1), (2, 1))), BUT_PAPER[1])
        self.is_told(True, BUT, more, "but", wide)

    def test_more_rows_than_are_needed(self):
        self.is_told(True, BUT, (BUT_PAPER[0], BUT_PAPER[1] + ((b,), (), (b,) * 3000)))


class ShapeTest(Checks):

    def test_strange_things(self):
        for thing in STRANGE:
            self.is_told(("shape", 0), thing, BUT_PAPER)
            self.is_told(("shape", 0), BUT, thing)
            self.is_told(("shape", 0), thing, thing)

    def test_each_place_bent(self):
        for thing in (None, -1, [], "ninesigns", 3, True, ("a",)):
            for path in paths_in(BUT_PAPER):
                self.is_told(("shape", 0), BUT, bent(BUT_PAPER, path, thing))
        for thing in (None, -1, [], "ninesigns", 3):
            for path in paths_in(BUT):
                self.is_told(("shape", 0), bent(BUT, path, thing), BUT_PAPER)

    def test_lists_in_the_place_of_tuples(self):
        for path in paths_in(BUT_PAPER):
            part = BUT_PAPER
            for at in path:
                part = part[at]
            if isinstance(part, tuple):
                self.is_told(("shape", 0), BUT, bent(BUT_PAPER, path, list(part)))

    def test_pairs_are_of_spots_of_the_one_and_the_other(self):
        wide = (((0, 0),) * 3, (False,) * 3)
        for pair, one, other, fine in (((2, 0), wide, SOME_B, True), ((2, 0), SOME_A, wide, False),
                                       ((0, 2), SOME_A, wide, True), ((0, 2), wide, SOME_B, False),
                                       ((3, 0), wide, wide, False), ((0, 3), wide, wide, False),
                                       ((0,), wide, wide, False), ((0, 0, 0), wide, wide, False),
                                       ((False, 0), wide, wide, False), ((0, False), wide, wide, False)):
            told = ask(lets_joined, TWO, "but", one, other, BUT, bent(BUT_PAPER, (0, 1), ((1, 0), pair)))
            self.assertEqual(told == no_join("shape", 0), not fine, pair)

    def test_as_many_places_as_spots_and_one_pair_or_more(self):
        places, rows = BUT_PAPER
        for bad in ((), places[:2], places + places[:1], places[:2] + ((),)):
            self.is_told(("shape", 0), BUT, (bad, rows))
        for paper in ((), BUT_PAPER[:1], BUT_PAPER + ((),)):
            self.is_told(("shape", 0), BUT, paper)

    def test_rows_of_another_table(self):
        for row in ((("c", 0),), (("a", 1),), (("a", False),), [a], a):
            self.is_told(("shape", 0), BUT, (BUT_PAPER[0], BUT_PAPER[1] + (row,)))


class FaultsTest(Checks):

    def test_numbers(self):
        self.is_told(("number", 2), (((2, 1), (2, 1), (1, 1)), BUT[1]), BUT_PAPER)
        self.is_told(("number", 1), (((0, 0), (1, 1), (2, 2)), BUT[1]), BUT_PAPER)
        self.is_told(("number", 2), (((1, 1), (1, 1), (2, 2)), BUT[1]), BUT_PAPER)

    def test_begin(self):
        self.is_told(("begin", 0), BUT, bent(BUT_PAPER, (0, 0), ((1, 0), (0, 1))))
        self.is_told(("begin", 0), BUT, bent(BUT_PAPER, (0, 0), ((1, 1),)))

    def test_end(self):
        for spot in range(3):
            self.is_told(("end", spot), (BUT[0], bent(BUT[1], (spot,), not BUT[1][spot])), BUT_PAPER)
        self.is_told(("end", 1), BUT, bent(BUT_PAPER, (0, 1), ((1, 0), (0, 0))))
        self.is_told(("end", 0), (BUT[0], (True, False, True)), BUT_PAPER)

    def test_next(self):
        self.is_told(("next", 0), (((1, 1), (1, 2), (2, 2)), BUT[1]), BUT_PAPER)
        self.is_told(("next", 1), (((1, 2), (2, 2), (2, 2)), BUT[1]), BUT_PAPER)
        self.is_told(("next", 2), (((1, 2), (1, 2), (2, 0)), BUT[1]), BUT_PAPER)
        self.is_told(("next", 0), BUT, bent(BUT_PAPER, (0, 2), ((1, 1),)))
        self.is_told(("next", 1), BUT, bent(BUT_PAPER, (0, 2), ((0, 1),)))

    # All of one word goes ahead of all of the next.
    def test_ends_of_all_spots_ahead_of_nexts(self):
        self.is_told(("end", 2), (((1, 1), (1, 2), (2, 2)), (False, True, True)), BUT_PAPER)

    def test_part(self):
        self.is_told(("part", 1), BUT, (BUT_PAPER[0], ()))
        self.is_told(("part", 2), BUT, (BUT_PAPER[0], ((),)))
        self.is_told(("part", 1), BUT, (BUT_PAPER[0], ((a,), (b,))))
        double = (((1, 2), (1, 2), (3, 3), (2, 2)), BUT[1] + (False,))
        pairs = ((0, 1), (1, 1))
        self.is_told(("part", 3), double, (BUT_PAPER[0][:2] + (pairs, pairs), ((), (a,), (b,), (a, a))))


class AgreeTest(Checks):

    def bend(self, maker, judge, paper, one, other):
        judge, places, rows = list(judge), [list(place) for place in paper[0]], list(paper[1])
        count = len(places)
        spot = maker.random.randrange(count)
        turn = maker.pick(("none", "nexts", "end", "drop", "more", "rows", "swap", "pair"))
        if turn == "nexts":
            path = (spot, maker.random.randrange(2))
            judge[0] = bent(judge[0], path, maker.random.randrange(count))
        if turn == "end":
            judge[1] = bent(judge[1], (spot,), not judge[1][spot])
        if turn == "drop" and len(places[spot]) > 1:
            places[spot].pop(maker.random.randrange(len(places[spot])))
        if turn == "more":
            places[spot] += [maker.pick(maker.pick(places))]
        if turn == "pair":
            places[spot] += [(maker.random.randrange(len(one[0])), maker.random.randrange(len(other[0])))]
        if turn == "rows":
            rows.pop(maker.random.randrange(len(rows)))
        if turn == "swap":
            where = maker.random.randrange(count)
            places[spot], places[where] = places[where], places[spot]
        return tuple(judge), (tuple(tuple(place) for place in places), tuple(rows))

    def test_against_the_plain_words(self):
        counts = {}
        for seed in range(1500):
            maker = Maker(seed)
            one, other, op = maker.machine(TWO, 4), maker.machine(TWO, 4), maker.pick(sorted(OPS))
            judge, paper = join_paper(TWO, op, one, other)
            judge, paper = self.bend(maker, judge, paper, one, other)
            wanted = plain_lets(TWO, op, one, other, judge, paper)
            self.assertEqual(ask(lets_joined, TWO, op, one, other, judge, paper), wanted, (seed, judge, paper))
            if wanted is True:
                self.assertEqual(judge, joined(TWO, op, one, other))
            word = wanted if wanted is True else wanted[1]["word"]
            counts[word] = counts.get(word, 0) + 1
        self.assertEqual(set(counts), {True, "number", "begin", "end", "next", "part"})
        self.assertGreater(min(counts.values()), 10, counts)

    def test_judges_bent_in_one_place(self):
        for seed in range(60):
            maker = Maker(seed)
            one, other, op = maker.machine(TWO, 4), maker.machine(TWO, 4), maker.pick(sorted(OPS))
            judge, paper = join_paper(TWO, op, one, other)
            count = len(judge[0])
            for spot in range(count):
                for path, things in (((0, spot, 0), range(count)), ((0, spot, 1), range(count)),
                                     ((1, spot), (True, False))):
                    for thing in things:
                        bad = bent(judge, path, thing)
                        told = ask(lets_joined, TWO, op, one, other, bad, paper)
                        self.assertEqual(told is True, bad == judge, (op, one, other, bad))
