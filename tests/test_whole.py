"""What is promised over the whole program: what one part tells, the others let by and agree with."""

import copy
import unittest

from surewatch.beside import compared
from surewatch.besidechecker import lets_beside
from surewatch.checker import lets_verdict
from surewatch.errors import SureError, TooMany
from surewatch.joinchecker import lets_joined
from surewatch.joinpapers import join_paper
from surewatch.judges import judge_of, judged
from surewatch.meaning import fits
from surewatch.ringchecker import lets_settling
from surewatch.room import Watch, taken_up
from surewatch.roomchecker import lets_room
from surewatch.rooms import room_told
from surewatch.settling import settled_by
from surewatch.tables import happenings_of
from surewatch.verdicts import first_sure, verdict, words
from surewatch.watchchecker import lets_judge, lets_watcher
from surewatch.watchers import sure_at, watched, watcher_of
from surewatch.watchpapers import judge_paper, watcher_paper
from surewatch.weavechecker import lets_woven
from surewatch.weaving import Weave, woven
from tests.plain import ONE_MORE, SMALL, TABLE, THREE_HUNDRED, WIDE, Maker, ask

TABLES = (SMALL, TABLE, (("b", 1), ("c", 0), ("a", 1)), (("a", 0),))


class WholeTest(unittest.TestCase):

    def let_by(self, lets, *things):
        self.assertIs(ask(lets, *things), True, things)

    def test_each_makers_own_outcomes_are_let_by(self):
        for seed in range(80):
            maker = Maker(seed)
            table = maker.pick(TABLES)
            one, other, row = maker.saying(9), maker.saying(7), maker.row(table, 4)
            rounds = maker.rounds(table, 4, 4, 5)
            self.let_by(lets_verdict, table, one, row, ask(verdict, table, one, row))
            self.let_by(lets_judge, table, one, *ask(judge_paper, table, one))
            self.let_by(lets_watcher, table, one, *ask(watcher_paper, table, one))
            judges = (judge_of(table, one), judge_of(table, other))
            for op in ("both", "either", "but", "unlike"):
                self.let_by(lets_joined, table, op, *judges, *ask(join_paper, table, op, *judges))
            self.let_by(lets_beside, table, one, other, ask(compared, table, one, other))
            self.let_by(lets_settling, table, one, ask(settled_by, table, one))
            self.let_by(lets_room, table, one, ask(room_told, table, one))
            self.let_by(lets_woven, table, one, rounds, ask(woven, table, one, rounds))

    def test_the_greatest_are_let_by_too(self):
        saying, row = THREE_HUNDRED, tuple(happenings_of(TABLE))
        self.let_by(lets_verdict, TABLE, saying, row, verdict(TABLE, saying, row))
        self.let_by(lets_judge, TABLE, saying, *judge_paper(TABLE, saying))
        self.let_by(lets_watcher, TABLE, saying, *watcher_paper(TABLE, saying))
        self.let_by(lets_beside, TABLE, saying, saying, compared(TABLE, saying, saying))
        self.let_by(lets_settling, TABLE, saying, settled_by(TABLE, saying))
        self.let_by(lets_room, TABLE, saying, room_told(TABLE, saying))
        rounds = ((row[:2], row[2:4], row[4:], row[:2]),) * 4
        self.let_by(lets_woven, TABLE, saying, rounds, woven(TABLE, saying, rounds))

    # Verdicts, watchers, watches and weaves of one hand tell the same words; judges what fits.
    def test_they_tell_the_same(self):
        for seed in range(80):
            maker = Maker(seed)
            table = maker.pick(TABLES)
            saying, row = maker.saying(9), maker.row(table, 6)
            told = words(table, saying, row)
            self.assertEqual(watched(table, watcher_of(table, saying), row), told)
            self.assertEqual(sure_at(table, watcher_of(table, saying), row), first_sure(table, saying, row))
            self.assertIs(judged(table, judge_of(table, saying), row), fits(saying, row))
            watch, weave = Watch(table, saying), Weave(table, saying, ("hand",))
            self.assertEqual([watch.tells(), weave.tells()], told[:1] * 2)
            for happening, word in zip(row, told[1:]):
                watch = taken_up(watch.laid_down())
                weave.say("hand", happening)
                self.assertEqual([watch.say(happening), weave.tells()], [word] * 2)

    # One saying lies within another one just where nothing fits the one but not the other.
    def test_laid_beside_and_put_together_they_agree(self):
        for seed in range(150):
            maker = Maker(seed)
            one, other = maker.saying(7), maker.saying(7)
            other = maker.pick((other, other, ("either", one, other), ("both", one, other)))
            judges = (judge_of(SMALL, one), judge_of(SMALL, other))
            alone = [any(join_paper(SMALL, "but", *pair)[0][1]) for pair in (judges, judges[::-1])]
            word = {(False, False): "alike", (False, True): "within", (True, False): "around",
                    (True, True): "parted"}[tuple(alone)]
            self.assertEqual(compared(SMALL, one, other)[0], word)
            self.assertEqual(judges[0] == judges[1], word == "alike")

    # A saying is settled just where its watcher has a spot that is not open.
    def test_settled_and_watched_agree(self):
        for seed in range(150):
            maker = Maker(seed)
            saying = maker.pick((maker.saying(7), ("always", ("some", maker.saying(4)))))
            told = settled_by(SMALL, saying)
            self.assertEqual(told[0] == "never", set(watcher_of(SMALL, saying)[1]) == {"open"})
            if told[0] == "settled":
                self.assertEqual(sure_at(SMALL, watcher_of(SMALL, saying), told[1]), (len(told[1]), told[2][0]))

    def test_what_was_asked_before_changes_nothing(self):
        makers = (compared, settled_by, room_told, judge_paper, watcher_paper)
        for seed in range(20):
            one, other = Maker(seed).saying(7), Maker(seed + 100).saying(7)
            several = [(call, (SMALL, one, other) if call is compared else (SMALL, one)) for call in makers]
            before = [copy.deepcopy(call(*things)) for call, things in several]
            for call, things in reversed(several):
                call(*(things[:1] + things[:0:-1]))
            self.assertEqual([call(*things) for call, things in several], before)

    def test_refusals_are_of_their_class_alone(self):
        for call, more in ((verdict, ((),)), (settled_by, ()), (judge_of, ()), (room_told, ()), (compared, (("yes",),)),
                           (woven, ((),)), (Watch, ()), (Weave, (("one",),))):
            with self.assertRaises(SureError) as taken:
                call(WIDE, ONE_MORE, *more)
            self.assertIs(type(taken.exception), TooMany)
            self.assertEqual(taken.exception.word, "stands")
