import unittest

from surewatch.errors import TooMany
from surewatch.joining import joined, turned
from surewatch.judges import is_judge, judge_of, judged, least_judge
from surewatch.reading import read_saying
from surewatch.stands import laid
from tests.plain import OPS, SMALL, TABLE, TWO, Maker, ask, plain_count, plain_met, plain_number, ring, rows_up_to

SPOTS = (TooMany, {"word": "spots"})
SOME_A = (((1, 0), (1, 1)), (False, True))
SOME_B = (((0, 1), (1, 1)), (False, True))
a, b = ("a", 0), ("b", 0)


# A row of spots: the last one stays.
def chain(count):
    return (tuple((min(spot + 1, count - 1),) * 2 for spot in range(count)), (False,) * (count - 1) + (True,))


class JoinedTest(unittest.TestCase):

    def told(self, table, op, one, other):
        judge = ask(joined, table, op, one, other)
        self.assertIs(is_judge(table, judge), True, judge)
        self.assertIsNone(plain_number(judge[0]))
        self.assertEqual(least_judge(table, judge), judge)
        return judge

    def test_each_op(self):
        for op, ends in (("both", (False, False, False, True)), ("unlike", (False, True, True, False))):
            self.assertEqual(self.told(TWO, op, SOME_A, SOME_B),
                             (((1, 2), (1, 3), (3, 2), (3, 3)), ends))
        self.assertEqual(self.told(TWO, "either", SOME_A, SOME_B), (((1, 1), (1, 1)), (False, True)))
        self.assertEqual(self.told(TWO, "but", SOME_A, SOME_B), (((1, 2), (1, 2), (2, 2)), (False, True, False)))

    def test_with_itself(self):
        self.assertEqual(self.told(TWO, "both", SOME_A, SOME_A), SOME_A)
        self.assertEqual(self.told(TWO, "either", SOME_A, SOME_A), SOME_A)
        for op in ("but", "unlike"):
            self.assertEqual(self.told(TWO, op, SOME_A, SOME_A), (((0, 0),), (False,)))

    def test_one_spot(self):
        for op, call in OPS.items():
            for one in (True, False):
                for other in (True, False):
                    judges = (((0, 0),), (one,)), (((0, 0),), (other,))
                    told = self.told(TWO, op, judges[0], judges[1])
                    self.assertEqual(told, (((0, 0),), (call(one, other),)))
                    self.assertIs(type(told[1][0]), bool)

    def test_against_all_rows(self):
        for seed in range(120):
            maker = Maker(seed)
            one, other = maker.machine(TWO, 4), maker.machine(TWO, 4)
            for op, call in OPS.items():
                told = self.told(TWO, op, one, other)
                for row in rows_up_to(TWO, 5):
                    wanted = call(judged(TWO, one, row), judged(TWO, other, row))
                    self.assertIs(judged(TWO, told, row), wanted, (op, one, other, row))

    def test_spots_that_none_leads_to(self):
        wide = (((2, 0), (1, 0), (2, 2)), (False, True, True))
        for op in OPS:
            self.assertEqual(self.told(TWO, op, wide, SOME_B), self.told(TWO, op, SOME_A, SOME_B))

    # The judges of two sayings put together are the judge of the sayings laid together.
    def test_sayings_laid_together(self):
        counted = 0
        for seed in range(150):
            one, other = Maker(seed).saying(5), Maker(seed + 5000).saying(5)
            both = ("unlike", ("either", ("both", one, ("not", other)), ("both", other, ("not", one))))
            if len(plain_met(SMALL, laid(both[1], True))) > 300:
                continue
            counted += 1
            for op, saying in (("both", ("both", one, other)), ("either", ("either", one, other)),
                               ("but", ("both", one, ("not", other))), both):
                told = self.told(SMALL, op, judge_of(SMALL, one), judge_of(SMALL, other))
                self.assertEqual(told, judge_of(SMALL, saying), (op, one, other))
        self.assertGreater(counted, 100)

    def test_judges_of_sixty_spots(self):
        told = self.told(TWO, "both", ring(60), ring(60))
        self.assertEqual(told, ring(60))
        told = self.told(TWO, "both", ring(60), ring(30))
        self.assertEqual(told, ring(60))
        told = self.told(TWO, "either", ring(60), ring(5, 1))
        self.assertEqual(len(told[0]), 300)
        self.assertEqual(len(self.told(TWO, "both", chain(60), chain(59))[0]), 60)
        self.assertEqual(len(self.told(TWO, "either", chain(60), chain(59))[0]), 59)

    def test_more_than_three_hundred_spots(self):
        self.assertEqual(len(self.told(TWO, "both", ring(20), ring(15, 1))[0]), 300)
        self.assertEqual(ask(joined, TWO, "both", ring(43), ring(7, 1)), SPOTS)
        self.assertEqual(ask(joined, TWO, "unlike", ring(60), ring(60, 1)), SPOTS)
        self.assertEqual(ask(joined, TWO, "both", ring(59), ring(60)), SPOTS)

    # Many pairs are come to, but few spots are needed.
    def test_what_counts_is_the_least_one(self):
        nothing = (ring(60, 1)[0], (False,) * 60)
        self.assertEqual(self.told(TWO, "both", ring(60), nothing), (((0, 0),), (False,)))
        self.assertEqual(self.told(TWO, "either", ring(60), nothing), ring(60))

    def test_what_is_told_may_be_handed_in_again(self):
        great = joined(TWO, "both", ring(20), ring(15, 1))
        self.assertEqual(self.told(TWO, "both", great, great), great)
        self.assertEqual(self.told(TWO, "either", great, (((0, 0),), (False,))), great)

    def test_wide_tables(self):
        one = judge_of(TABLE, read_saying("each a x some both now name b now same x"))
        other = judge_of(TABLE, read_saying("each b x some both now name a now same x"))
        told = self.told(TABLE, "both", one, other)
        for seed in range(60):
            row = Maker(seed).row(TABLE, 8)
            self.assertIs(judged(TABLE, told, row), judged(TABLE, one, row) and judged(TABLE, other, row))


class TurnedTest(unittest.TestCase):

    def test_turned(self):
        self.assertEqual(ask(turned, TWO, SOME_A), (SOME_A[0], (True, False)))
        self.assertEqual(ask(turned, TWO, (((0, 0),), (True,))), (((0, 0),), (False,)))
        self.assertEqual(ask(turned, TWO, (((1, 1), (0, 0)), (True, True))), (((0, 0),), (False,)))
        self.assertEqual(ask(turned, TWO, (((2, 0), (1, 1), (2, 2)), (False, True, True))), (SOME_A[0], (True, False)))

    def test_against_all_rows(self):
        for seed in range(150):
            judge = Maker(seed).machine(TWO, 6)
            told = ask(turned, TWO, judge)
            self.assertIs(is_judge(TWO, told), True)
            self.assertIsNone(plain_number(told[0]))
            self.assertEqual(len(told[0]), plain_count(TWO, judge))
            for row in rows_up_to(TWO, 6):
                self.assertIs(judged(TWO, told, row), not judged(TWO, judge, row))

    def test_the_saying_turned(self):
        for seed in range(60):
            saying = Maker(seed).saying(7)
            self.assertEqual(ask(turned, SMALL, judge_of(SMALL, saying)), judge_of(SMALL, ("not", saying)))

    def test_more_than_three_hundred_spots(self):
        self.assertEqual(ask(turned, TWO, ring(300)), ring(300, 0, False))
        self.assertEqual(ask(turned, TWO, ring(301)), SPOTS)
