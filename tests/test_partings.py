import unittest

from surewatch.judges import judge_of, least_judge, led
from surewatch.partings import parting, parting_rows
from surewatch.reading import read_saying
from surewatch.tables import is_row
from tests.plain import SMALL, TABLE, TWO, Maker, ask, plain_led, plain_part, rows_up_to

a, b = ("a", 0), ("b", 0)


class PartingTest(unittest.TestCase):

    def test_words_at_once(self):
        nexts = ((0, 0), (1, 1))
        for words in ((True, False), ("yes", "no"), ("", "x"), (True, "True"), ("open", False)):
            self.assertEqual(ask(parting, TWO, nexts, words, 0, 1), ())
            self.assertEqual(ask(parting, TWO, nexts, words, 1, 0), ())

    def test_none(self):
        self.assertIsNone(ask(parting, TWO, ((0, 0), (1, 1)), (True, True), 0, 1))
        self.assertIsNone(ask(parting, TWO, ((0, 1), (1, 0)), ("x", "x"), 0, 1))
        self.assertIsNone(ask(parting, TWO, ((2, 1), (1, 2), (2, 2)), (True, True, True), 0, 1))

    def test_a_spot_and_itself(self):
        for spot in (0, 1):
            self.assertIsNone(ask(parting, TWO, ((0, 1), (1, 0)), (True, False), spot, spot))

    def test_shortest_then_first(self):
        nexts = ((2, 3), (3, 2), (2, 2), (3, 3))
        self.assertEqual(ask(parting, TWO, nexts, ("x", "x", "y", "z"), 0, 1), (a,))
        nexts = ((2, 3), (2, 4), (4, 4), (3, 3), (4, 3))
        self.assertEqual(ask(parting, TWO, nexts, ("x", "x", "x", "x", "y"), 0, 1), (b,))
        nexts = ((2, 3), (4, 3), (5, 6), (3, 3), (5, 5), (5, 5), (6, 6))
        self.assertEqual(ask(parting, TWO, nexts, (True,) * 6 + (False,), 0, 1), (a, b))

    def test_spots_that_none_leads_to(self):
        self.assertEqual(ask(parting, TWO, ((0, 0), (2, 0), (2, 2)), (False, False, True), 0, 1), (a,))

    def test_against_all_rows(self):
        nones = 0
        for seed in range(300):
            maker = Maker(seed)
            machine = maker.machine(TWO, 5, maker.pick(((True, False), ("yes", "no", "open"), (True, "yes"), ("x",))))
            rows = rows_up_to(TWO, len(machine[0]) - 1)
            for one in range(len(machine[0])):
                for other in range(len(machine[0])):
                    wanted = next((row for row in rows if machine[1][plain_led(TWO, machine[0], one, row)]
                                   != machine[1][plain_led(TWO, machine[0], other, row)]), None)
                    told = ask(parting, TWO, machine[0], machine[1], one, other)
                    self.assertEqual(told, wanted, (machine, one, other))
                    nones += told is None and one != other
        self.assertGreater(nones, 100)

    def test_long_ones(self):
        count = 100
        nexts = tuple((min(spot + 1, count - 1), spot) for spot in range(count))
        words = (False,) * (count - 1) + (True,)
        self.assertEqual(ask(parting, TWO, nexts, words, 0, 1), (a,) * (count - 2))
        self.assertEqual(ask(parting, TWO, nexts, words, 60, 50), (a,) * (count - 61))


class PartingRowsTest(unittest.TestCase):

    def part_all(self, table, nexts, words):
        told = ask(parting_rows, table, nexts, words)
        self.assertIs(type(told), tuple)
        self.assertLessEqual(len(told), len(nexts))
        for row in told:
            self.assertTrue(type(row) is tuple and is_row(table, row), row)
        self.assertIsNone(plain_part(table, (nexts, words), told), (nexts, words, told))

    def test_one_spot(self):
        self.part_all(TWO, ((0, 0),), (True,))
        self.part_all(TWO, ((0, 0),), ("",))

    def test_parted(self):
        self.part_all(TWO, ((1, 0), (1, 1)), (False, True))
        self.part_all(TWO, ((1, 0), (2, 0), (2, 2)), (False, False, True))
        self.part_all(TWO, ((0, 0), (1, 1), (2, 2)), (True, "True", "False"))
        self.part_all(TWO, ((0, 0), (0, 1), (1, 0)), ("x", "y", "x"))

    def test_none(self):
        self.assertIsNone(ask(parting_rows, TWO, ((0, 1), (1, 0)), (True, True)))
        self.assertIsNone(ask(parting_rows, TWO, ((0, 0), (1, 1), (2, 2)), (True, False, True)))
        self.assertIsNone(ask(parting_rows, TWO, ((0, 0), (0, 0)), ("x", "x")))

    # Spots that none leads to have to be parted too.
    def test_all_spots_count(self):
        self.assertIsNone(ask(parting_rows, TWO, ((0, 0), (0, 0)), (True, True)))
        self.part_all(TWO, ((0, 0), (1, 1), (0, 1)), (True, False, True))

    def test_against_all_rows(self):
        nones = 0
        for seed in range(500):
            maker = Maker(seed)
            machine = maker.machine(SMALL, 5, maker.pick(((True, False), ("yes", "no", "open"), (True, "yes"))))
            wanted = plain_part(SMALL, machine, rows_up_to(SMALL, len(machine[0]) - 1))
            if wanted is None:
                self.part_all(SMALL, machine[0], machine[1])
            else:
                nones += 1
                self.assertIsNone(ask(parting_rows, SMALL, machine[0], machine[1]))
        self.assertGreater(nones, 50)

    def test_least_judges(self):
        for seed in range(60):
            judge = judge_of(TABLE, Maker(seed).saying(9))
            self.part_all(TABLE, judge[0], judge[1])
        for seed in range(20):
            judge = least_judge(TWO, Maker(seed).machine(TWO, 100))
            self.part_all(TWO, judge[0], judge[1])

    def test_long_ones(self):
        count = 60
        nexts = tuple((min(spot + 1, count - 1), spot) for spot in range(count))
        self.part_all(TWO, nexts, (False,) * (count - 1) + (True,))

    def test_rows_lead_as_told(self):
        judge = judge_of(TABLE, read_saying("each a x some both now name b now same x"))
        rows = parting_rows(TABLE, judge[0], judge[1])
        lists = [[judge[1][led(TABLE, judge[0], spot, row)] for row in rows] for spot in range(len(judge[0]))]
        self.assertEqual(len(judge[0]), 8)
        self.assertEqual(len({tuple(words) for words in lists}), 8)
