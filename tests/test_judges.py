import unittest

from surewatch.errors import TooMany
from surewatch.judges import first_rows, is_judge, judge_of, judged, least_judge, led
from surewatch.meaning import fits
from surewatch.reading import read_saying
from tests.plain import (ONE_MORE, SMALL, STRANGE, TABLE, THREE_HUNDRED, TWO, WIDE, Maker, ask, bent, paths_in,
                         plain_count, plain_holds, plain_led, plain_number, plain_told, ring, rows_up_to)

a, b = ("a", 0), ("b", 0)
# Whether an a came.
SOME_A = (((1, 0), (1, 1)), (False, True))


class IsJudgeTest(unittest.TestCase):

    def test_judges(self):
        for thing in (SOME_A, (((0, 0),), (True,)), (((2, 0), (1, 1), (0, 1)), (False, False, True))):
            self.assertIs(ask(is_judge, TWO, thing), True, thing)
        self.assertIs(ask(is_judge, (("a", 0),), (((0,),), (False,))), True)
        self.assertIs(ask(is_judge, TWO, (((0, 0),) * 500, (True,) * 500)), True)

    def test_of_another_table(self):
        self.assertIs(ask(is_judge, SMALL, SOME_A), False)
        self.assertIs(ask(is_judge, (("a", 0),), SOME_A), False)

    def test_other_shapes(self):
        for thing in ((), ((), ()), (SOME_A[0],), SOME_A + ((),), (SOME_A[0], (True,)), (SOME_A[0], (True,) * 3),
                      (((1, 0),), (True,)), (((-1, 0),), (True,)), (((0, 0, 0),), (True,)), (((0,),), (True,)),
                      (((True, 0), (1, 1)), (True, True)), (((False, 0),), (True,)), (((0, 0),), (1,)),
                      (((0, 0),), (0,)), (((0, 0),), ("yes",)), (((0, 0),), (None,)), (((0, 0), ()), (True, True))):
            self.assertIs(ask(is_judge, TWO, thing), False, repr(thing))

    def test_lists_in_the_place_of_tuples(self):
        for thing in (list(SOME_A), (list(SOME_A[0]), SOME_A[1]), (SOME_A[0], list(SOME_A[1])),
                      (([1, 0], (1, 1)), (False, True))):
            self.assertIs(ask(is_judge, TWO, thing), False, repr(thing))

    def test_strange_things(self):
        for thing in STRANGE:
            self.assertIs(ask(is_judge, TWO, thing), False, repr(thing))
            for path in paths_in(SOME_A):
                number = path[:1] == (0,) and len(path) == 3 and repr(thing) in ("0", "1")
                truth = path[:1] == (1,) and len(path) == 2 and isinstance(thing, bool)
                self.assertIs(ask(is_judge, TWO, bent(SOME_A, path, thing)), number or truth, (path, thing))


class LedTest(unittest.TestCase):

    def test_led(self):
        nexts = ((1, 2), (0, 1), (2, 2))
        for spot, row, wanted in ((0, (), 0), (2, (), 2), (0, (a,), 1), (0, (b,), 2), (1, (a,), 0),
                                  (1, (b, b, a, b), 2), (0, (a, a, a), 1)):
            self.assertEqual(ask(led, TWO, nexts, spot, row), wanted)
            self.assertEqual(ask(led, TWO, nexts, spot, list(row)), wanted)

    def test_the_tables_order(self):
        nexts = ((1, 2, 3), (0, 0, 0), (0, 0, 0), (0, 0, 0))
        for table in ((("a", 1), ("b", 0)), (("b", 0), ("a", 1)), (("z", 2),)):
            order = [(name, k) for name, most in table for k in range(most + 1)]
            self.assertEqual([ask(led, table, nexts, 0, (one,)) for one in order], [1, 2, 3])

    def test_judged(self):
        for row, truth in (((), False), ((b, b), False), ((b, a, b), True)):
            self.assertIs(ask(judged, TWO, SOME_A, row), truth)
            self.assertIs(ask(judged, TWO, SOME_A, list(row)), truth)
        self.assertIs(ask(judged, TWO, (((0, 0),), (True,)), ()), True)

    def test_against_the_plain_words(self):
        for seed in range(200):
            maker = Maker(seed)
            judge, row = maker.machine(SMALL, 6), maker.row(SMALL, 8)
            spot = maker.random.randrange(len(judge[0]))
            self.assertEqual(ask(led, SMALL, judge[0], spot, row), plain_led(SMALL, judge[0], spot, row))
            self.assertIs(ask(judged, SMALL, judge, row), judge[1][plain_led(SMALL, judge[0], 0, row)])


class FirstRowsTest(unittest.TestCase):

    def test_first_rows(self):
        self.assertEqual(ask(first_rows, TWO, ((0, 0),)), [()])
        self.assertEqual(ask(first_rows, TWO, ((1, 1), (2, 0), (2, 2))), [(), (a,), (a, a)])
        self.assertEqual(ask(first_rows, TWO, ((2, 1), (3, 3), (3, 0), (0, 0))), [(), (b,), (a,), (a, a)])

    def test_spots_that_none_leads_to(self):
        self.assertEqual(ask(first_rows, TWO, ((0, 0), (0, 1))), [(), None])
        self.assertEqual(ask(first_rows, TWO, ((2, 2), (0, 2), (2, 0), (1, 1))), [(), None, (a,), None])

    # The shorter one goes ahead of what is first in the table's order.
    def test_shortest_then_first(self):
        self.assertEqual(ask(first_rows, TWO, ((1, 2), (2, 0), (0, 0))), [(), (a,), (b,)])

    def test_against_all_rows(self):
        for seed in range(300):
            nexts = Maker(seed).machine(TWO, 6)[0]
            rows = rows_up_to(TWO, len(nexts) - 1)
            wanted = [next((row for row in rows if plain_led(TWO, nexts, 0, row) == spot), None)
                      for spot in range(len(nexts))]
            told = ask(first_rows, TWO, nexts)
            self.assertIs(type(told), list)
            self.assertEqual(told, wanted, nexts)

    def test_the_told_list_is_the_askers_own(self):
        nexts = ((1, 0), (1, 1))
        first_rows(TWO, nexts).clear()
        self.assertEqual(first_rows(TWO, nexts), [(), (a,)])


class LeastJudgeTest(unittest.TestCase):

    def is_least(self, table, told, judge):
        self.assertIs(is_judge(table, told), True)
        self.assertIsNone(plain_number(told[0]), told)
        self.assertEqual(len(told[0]), plain_count(table, judge))

    def test_least(self):
        for judge, wanted in ((SOME_A, SOME_A), ((((0, 0),), (False,)), (((0, 0),), (False,))),
                              ((((1, 1), (0, 0)), (True, True)), (((0, 0),), (True,))),
                              ((((2, 0), (1, 1), (2, 2)), (False, True, True)), SOME_A),
                              ((((1, 0), (1, 2), (2, 1)), (False, True, True)), SOME_A),
                              ((((0, 0), (1, 1)), (True, False)), (((0, 0),), (True,))),
                              ((((2, 1), (0, 0), (1, 2)), (True, False, False)),
                               (((1, 2), (2, 1), (0, 0)), (True, False, False)))):
            self.assertEqual(ask(least_judge, TWO, judge), wanted)

    def test_against_all_rows(self):
        for seed in range(300):
            maker = Maker(seed)
            table = maker.pick((TWO, (("a", 0),)))
            judge = maker.machine(table, 7)
            told = ask(least_judge, table, judge)
            self.is_least(table, told, judge)
            for row in rows_up_to(table, 7):
                self.assertIs(judged(table, told, row), judged(table, judge, row))
            self.assertEqual(ask(least_judge, table, told), told)

    # Many of the random ones have few spots more than needed; here each spot stands there thrice.
    def test_spots_told_more_than_once(self):
        for seed in range(100):
            maker = Maker(seed)
            judge = least_judge(SMALL, maker.machine(SMALL, 5))
            count = len(judge[0])
            wide = (tuple(tuple(later + count * maker.random.randrange(3) for later in leads)
                          for leads in judge[0] * 3), judge[1] * 3)
            self.assertEqual(ask(least_judge, SMALL, wide), judge)

    def test_a_ring_of_a_hundred_spots(self):
        nexts = tuple(((spot + 1) % 100, spot) for spot in range(100))
        ring = (nexts, tuple(spot == 0 for spot in range(100)))
        self.assertEqual(ask(least_judge, TWO, ring), ring)
        folded = (nexts, tuple(spot % 10 == 0 for spot in range(100)))
        wanted = tuple(((spot + 1) % 10, spot) for spot in range(10))
        self.assertEqual(ask(least_judge, TWO, folded), (wanted, (True,) + (False,) * 9))


class JudgeOfTest(unittest.TestCase):

    def test_judges(self):
        for text, wanted in (
                ("yes", (((0, 0),), (True,))), ("no", (((0, 0),), (False,))), ("some now name a", SOME_A),
                ("always now any", (((0, 0),), (True,))), ("next yes", (((1, 1), (1, 1)), (False, True))),
                ("always now name a", (((0, 1), (1, 1)), (True, False))),
                ("now name b", (((1, 2), (1, 1), (2, 2)), (False, False, True))),
                ("some both now name a not next now any", (((1, 0), (1, 0)), (False, True)))):
            self.assertEqual(ask(judge_of, TWO, read_saying(text)), wanted, text)

    def test_the_tables_order(self):
        saying = read_saying("now name b")
        self.assertEqual(ask(judge_of, (("b", 0), ("a", 0)), saying), (((1, 2), (1, 1), (2, 2)), (False, True, False)))

    def test_against_rows_gone_through_one_by_one(self):
        rows = rows_up_to(TWO, 6)
        for seed in range(150):
            saying = Maker(seed).saying(7)
            told = ask(judge_of, TWO, saying)
            self.assertIs(is_judge(TWO, told), True)
            self.assertIsNone(plain_number(told[0]))
            for row in rows:
                self.assertIs(judged(TWO, told, row), plain_holds(saying, row, 0), (saying, row))
            if len(told[0]) < 8:
                self.assertEqual(len({plain_told(TWO, told, spot) for spot in range(len(told[0]))}), len(told[0]))

    def test_wide_tables(self):
        for seed in range(60):
            maker = Maker(seed)
            saying = maker.saying(9)
            told = ask(judge_of, TABLE, saying)
            self.assertEqual(ask(least_judge, TABLE, told), told)
            for _ in range(20):
                row = maker.row(TABLE, 8)
                self.assertIs(judged(TABLE, told, row), fits(saying, row))

    def test_sayings_that_are_fitted_by_the_same_rows_have_one_judge(self):
        for one, other in (("some now name a", "till yes now name a"), ("always now name a", "not some now name b"),
                           ("each a x now same x", "yes"), ("one b x yes", "some now name b"),
                           ("within 2 now name a", "either now name a next now name a")):
            self.assertEqual(judge_of(TWO, read_saying(one)), judge_of(TWO, read_saying(other)))

    def test_more_than_three_hundred_stands(self):
        self.assertEqual(ask(judge_of, WIDE, ONE_MORE), (TooMany, {"word": "stands"}))
        told = ask(judge_of, TABLE, THREE_HUNDRED)
        for seed in range(100):
            row = Maker(seed).row(TABLE, 10)
            self.assertIs(judged(TABLE, told, row), fits(THREE_HUNDRED, row))
