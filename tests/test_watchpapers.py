import unittest

from surewatch.errors import TooMany
from surewatch.going import met
from surewatch.judges import is_judge, judge_of, judged
from surewatch.meaning import fits
from surewatch.reading import read_saying
from surewatch.stands import alike, is_stand, laid
from surewatch.watchchecker import lets_judge, lets_watcher
from surewatch.watchers import is_watcher, watched, watcher_of
from surewatch.watchpapers import judge_paper, watcher_paper
from tests.plain import (ONE_MORE, SMALL, TABLE, THREE_HUNDRED, TWO, WIDE, Maker, ask, is_trimmed, plain_holds,
                         plain_word, rows_up_to)

MANY = (TooMany, {"word": "stands"})


class PapersTest(unittest.TestCase):

    def told(self, table, saying):
        judge, paper = ask(judge_paper, table, saying)
        self.assertIs(is_judge(table, judge), True)
        self.assertIs(ask(lets_judge, table, saying, judge, paper), True, saying)
        watcher, watch = ask(watcher_paper, table, saying)
        self.assertIs(is_watcher(table, watcher), True)
        self.assertIs(ask(lets_watcher, table, saying, watcher, watch), True, saying)
        for place in paper[0]:
            self.assertTrue(all(is_stand(stand) and is_trimmed(stand) for stand in place))
        for place in watch[0]:
            self.assertTrue(all(is_stand(entry[0]) and is_trimmed(entry[0]) for entry in place))
        return judge, watcher

    def test_kinds(self):
        for told in (ask(judge_paper, TWO, ("yes",)), ask(watcher_paper, TWO, ("yes",))):
            self.assertEqual((type(told), len(told)), (tuple, 2))
            self.assertEqual([type(part) for part in told[1]], [tuple, tuple])

    def test_they_are_the_judge_and_the_watcher(self):
        for text in ("yes", "no", "some now name a", "always now any", "now name b", "next next yes",
                     "always some now name a", "some both now name a not next now any",
                     "within 3 now name a", "till now name a now name b", "each a x some both now name b now same x"):
            for table in (TWO, SMALL, TABLE):
                saying = read_saying(text)
                self.assertEqual(self.told(table, saying), (judge_of(table, saying), watcher_of(table, saying)), text)

    def test_made_ones(self):
        for seed in range(200):
            saying = Maker(seed).saying()
            for table in (SMALL, (("b", 1), ("c", 0), ("a", 1))):
                self.assertEqual(self.told(table, saying), (judge_of(table, saying), watcher_of(table, saying)), seed)

    def test_against_rows_gone_through_one_by_one(self):
        counted = 0
        for seed in range(60):
            saying = Maker(seed).saying(6)
            judge, watcher = self.told(TWO, saying)
            if len(judge[0]) > 6:
                continue
            counted += 1
            for row in rows_up_to(TWO, 3):
                self.assertIs(judged(TWO, judge, row), plain_holds(saying, row, 0))
                word = plain_word(TWO, lambda whole: plain_holds(saying, whole, 0), row, 5)
                self.assertEqual(watched(TWO, watcher, row)[-1], word, (saying, row))
        self.assertGreater(counted, 40)

    def test_each_stand_that_is_met_has_its_spot(self):
        for seed in range(60):
            saying = Maker(seed).saying()
            stands = [stand for place in judge_paper(SMALL, saying)[1][0] for stand in place]
            for stand in met(SMALL, laid(saying, True)):
                self.assertTrue(any(alike(stand, other) for other in stands))

    def test_more_than_three_hundred_stands(self):
        self.assertEqual(ask(judge_paper, WIDE, ONE_MORE), MANY)
        self.assertEqual(ask(watcher_paper, WIDE, ONE_MORE), MANY)
        judge = self.told(TABLE, THREE_HUNDRED)[0]
        self.assertEqual(sum(len(place) for place in judge_paper(TABLE, THREE_HUNDRED)[1][0]), 300)
        for seed in range(50):
            row = Maker(seed).row(TABLE, 10)
            self.assertIs(judged(TABLE, judge, row), fits(THREE_HUNDRED, row))
