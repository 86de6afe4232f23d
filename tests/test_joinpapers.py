import unittest

from surewatch.errors import TooMany
from surewatch.joinchecker import lets_joined
from surewatch.joining import joined
from surewatch.joinpapers import join_paper
from surewatch.judges import judge_of
from tests.plain import OPS, SMALL, TWO, Maker, ask, ring


class JoinPaperTest(unittest.TestCase):

    def told(self, table, op, one, other):
        told = ask(join_paper, table, op, one, other)
        self.assertEqual((type(told), len(told)), (tuple, 2))
        self.assertEqual([type(part) for part in told[1]], [tuple, tuple])
        self.assertEqual(told[0], joined(table, op, one, other))
        self.assertIs(ask(lets_joined, table, op, one, other, told[0], told[1]), True, (op, one, other))
        return told

    def test_one_spot(self):
        for op in OPS:
            self.told(TWO, op, (((0, 0),), (True,)), (((0, 0),), (False,)))

    def test_made_ones(self):
        for seed in range(200):
            maker = Maker(seed)
            one, other = maker.machine(SMALL, 6), maker.machine(SMALL, 6)
            for op in OPS:
                self.told(SMALL, op, one, other)

    def test_judges_of_sayings(self):
        for seed in range(60):
            one, other = judge_of(SMALL, Maker(seed).saying(7)), judge_of(SMALL, Maker(seed + 1000).saying(7))
            for op in OPS:
                self.told(SMALL, op, one, other)

    def test_judges_of_sixty_spots(self):
        self.assertEqual(len(self.told(TWO, "either", ring(60), ring(5, 1))[0][0]), 300)
        told = self.told(TWO, "both", ring(60), (ring(60, 1)[0], (True,) * 60))
        self.assertEqual(told[0], ring(60))
        self.assertEqual(sum(len(set(place)) for place in told[1][0]), 3600)

    def test_more_than_three_hundred_spots(self):
        self.assertEqual(ask(join_paper, TWO, "both", ring(43), ring(7, 1)), (TooMany, {"word": "spots"}))
        self.assertEqual(ask(join_paper, TWO, "unlike", ring(60), ring(59)), (TooMany, {"word": "spots"}))
