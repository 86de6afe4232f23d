import unittest

from surewatch.errors import TooMany
from surewatch.judges import judge_of, judged
from surewatch.reading import read_saying
from surewatch.verdicts import first_sure, words
from surewatch.watchers import is_watcher, sure_at, watched, watcher_by, watcher_of
from tests.plain import (ONE_MORE, SMALL, STRANGE, TABLE, THREE_HUNDRED, TWO, WIDE, Maker, ask, bent, paths_in,
                         plain_count, plain_holds, plain_led, plain_number, plain_reached, plain_word, rows_up_to,
                         sure, word_by)

a, b = ("a", 0), ("b", 0)
SOME_A = (((1, 0), (1, 1)), ("open", "yes"))


class IsWatcherTest(unittest.TestCase):

    def test_watchers(self):
        for thing in (SOME_A, (((0, 0),), ("open",)), (((1, 2), (1, 1), (2, 2)), ("open", "yes", "no")),
                      (((1, 0), (0, 1)), ("yes", "no"))):
            self.assertIs(ask(is_watcher, TWO, thing), True, thing)

    def test_of_another_table(self):
        self.assertIs(ask(is_watcher, SMALL, SOME_A), False)

    def test_other_shapes(self):
        for thing in ((), ((), ()), (SOME_A[0],), SOME_A + ((),), (SOME_A[0], ("yes",)), (SOME_A[0], ("yes",) * 3),
                      (((1, 0),), ("yes",)), (((-1, 0),), ("yes",)), (((0, 0, 0),), ("yes",)), (((0,),), ("yes",)),
                      (((False, 0),), ("yes",)), (((0, 0),), (True,)), (((0, 0),), ("Yes",)), (((0, 0),), ("",)),
                      (((0, 0),), ("maybe",)), (((0, 0),), (None,)), (((0, 0),), (("yes",),)), (((0, 0),), "y")):
            self.assertIs(ask(is_watcher, TWO, thing), False, repr(thing))

    def test_lists_in_the_place_of_tuples(self):
        for thing in (list(SOME_A), (list(SOME_A[0]), SOME_A[1]), (SOME_A[0], list(SOME_A[1])),
                      (([1, 0], (1, 1)), ("open", "yes"))):
            self.assertIs(ask(is_watcher, TWO, thing), False, repr(thing))

    def test_strange_things(self):
        for thing in STRANGE:
            for path in paths_in(SOME_A):
                number = path[:1] == (0,) and len(path) == 3 and repr(thing) in ("0", "1")
                word = path[:1] == (1,) and len(path) == 2 and thing == "yes"
                self.assertIs(ask(is_watcher, TWO, bent(SOME_A, path, thing)), number or word, (path, thing))


# The word of a judge's spot: by the ends of all spots to which rows lead from there.
def plain_spot_word(judge, spot):
    order = [spot] + [other for other in range(len(judge[0])) if other != spot]
    renamed = tuple(tuple(order.index(later) for later in judge[0][old]) for old in order)
    return word_by([judge[1][order[new]] for new in plain_reached(renamed)])


class WatcherByTest(unittest.TestCase):

    def test_watchers(self):
        for judge, wanted in (
                ((((0, 0),), (True,)), (((0, 0),), ("yes",))), ((((0, 0),), (False,)), (((0, 0),), ("no",))),
                ((((1, 0), (1, 1)), (False, True)), SOME_A),
                ((((0, 1), (1, 1)), (True, False)), (((0, 1), (1, 1)), ("open", "no"))),
                ((((1, 0), (1, 0)), (False, True)), (((0, 0),), ("open",))),
                ((((1, 2), (1, 2), (2, 1)), (False, True, True)), (((1, 1), (1, 1)), ("open", "yes"))),
                ((((1, 2), (1, 1), (2, 2)), (True, True, False)), (((1, 2), (1, 1), (2, 2)), ("open", "yes", "no"))),
                ((((0, 0), (1, 1)), (True, False)), (((0, 0),), ("yes",)))):
            self.assertEqual(ask(watcher_by, TWO, judge), wanted, judge)

    def test_against_all_rows(self):
        for seed in range(300):
            maker = Maker(seed)
            judge = maker.machine(TWO, 6, maker.pick(((True, False), (True, True, True, False))))
            told = ask(watcher_by, TWO, judge)
            self.assertIs(is_watcher(TWO, told), True)
            self.assertIsNone(plain_number(told[0]))
            verdicts = tuple(plain_spot_word(judge, spot) for spot in range(len(judge[0])))
            self.assertEqual(len(told[0]), plain_count(TWO, (judge[0], verdicts)))
            for row in rows_up_to(TWO, 6):
                self.assertEqual(told[1][plain_led(TWO, told[0], 0, row)],
                                 verdicts[plain_led(TWO, judge[0], 0, row)])

    def test_one_spot_is_yes_one_no_and_they_lead_to_themselves(self):
        for seed in range(200):
            judge = Maker(seed).machine(SMALL, 12, (True, True, True, True, False))
            told = ask(watcher_by, SMALL, judge)
            for word in ("yes", "no"):
                self.assertLessEqual(told[1].count(word), 1)
                if word in told[1]:
                    spot = told[1].index(word)
                    self.assertEqual(told[0][spot], (spot,) * 3)


class WatcherOfTest(unittest.TestCase):

    def test_watchers(self):
        for text, wanted in (
                ("yes", (((0, 0),), ("yes",))), ("no", (((0, 0),), ("no",))), ("some now name a", SOME_A),
                ("always some now name a", (((0, 0),), ("open",))),
                ("now name b", (((1, 2), (1, 1), (2, 2)), ("open", "no", "yes"))),
                ("next next yes", (((1, 1), (2, 2), (2, 2)), ("open", "open", "yes")))):
            self.assertEqual(ask(watcher_of, TWO, read_saying(text)), wanted, text)

    # Its judge tells rows whose last happening is an a from the others, but of none is it ever sure.
    def test_open_spots_that_end_otherwise_may_be_one(self):
        saying = read_saying("some both now name a not next now any")
        self.assertEqual(len(judge_of(TWO, saying)[0]), 2)
        self.assertEqual(ask(watcher_of, TWO, saying), (((0, 0),), ("open",)))

    def test_it_is_that_of_its_judge(self):
        for seed in range(100):
            saying = Maker(seed).saying()
            self.assertEqual(ask(watcher_of, SMALL, saying), watcher_by(SMALL, judge_of(SMALL, saying)))

    def test_against_rows_gone_through_one_by_one(self):
        counted = 0
        for seed in range(120):
            saying = Maker(seed).saying(6)
            judge, told = judge_of(TWO, saying), ask(watcher_of, TWO, saying)
            if len(judge[0]) > 6:
                continue
            counted += 1
            for row in rows_up_to(TWO, 3):
                word = plain_word(TWO, lambda whole: plain_holds(saying, whole, 0), row, 5)
                self.assertEqual(told[1][plain_led(TWO, told[0], 0, row)], word, (saying, row))
        self.assertGreater(counted, 80)

    def test_more_than_three_hundred_stands(self):
        self.assertEqual(ask(watcher_of, WIDE, ONE_MORE), (TooMany, {"word": "stands"}))
        self.assertIs(is_watcher(TABLE, ask(watcher_of, TABLE, THREE_HUNDRED)), True)


class WatchedTest(unittest.TestCase):

    def test_watched(self):
        for row, verdicts, sure in (((), ["open"], None), ((b,), ["open"] * 2, None),
                                    ((a,), ["open", "yes"], (1, "yes")),
                                    ((b, b, a, b), ["open"] * 3 + ["yes"] * 2, (3, "yes"))):
            for handed in (row, list(row)):
                told = ask(watched, TWO, SOME_A, handed)
                self.assertIs(type(told), list)
                self.assertEqual(told, verdicts)
                self.assertEqual(ask(sure_at, TWO, SOME_A, handed), sure)

    def test_sure_at_once(self):
        for word in ("yes", "no"):
            watcher = (((0, 0),), (word,))
            self.assertEqual(ask(watched, TWO, watcher, (a,)), [word, word])
            self.assertEqual(ask(sure_at, TWO, watcher, (a,)), (0, word))
            self.assertEqual(ask(sure_at, TWO, watcher, ()), (0, word))

    # Any watcher is watched by what it tells, right or not.
    def test_a_watcher_that_turns(self):
        watcher = (((1, 0), (0, 1)), ("open", "no"))
        self.assertEqual(ask(watched, TWO, watcher, (b, a, a, a)), ["open", "open", "no", "open", "no"])
        self.assertEqual(ask(sure_at, TWO, watcher, (b, a, a, a)), (2, "no"))

    def test_what_the_verdicts_say(self):
        for seed in range(150):
            maker = Maker(seed)
            saying, row = maker.saying(), maker.row(SMALL, 8)
            watcher = watcher_of(SMALL, saying)
            self.assertEqual(ask(watched, SMALL, watcher, row), words(SMALL, saying, row))
            self.assertEqual(ask(sure_at, SMALL, watcher, row), first_sure(SMALL, saying, row))
            last = watched(SMALL, watcher, row)[-1]
            if last != "open":
                self.assertIs(judged(SMALL, judge_of(SMALL, saying), row), last == "yes")

    def test_the_told_list_is_the_askers_own(self):
        watched(TWO, SOME_A, (a,)).clear()
        self.assertEqual(watched(TWO, SOME_A, (a,)), ["open", "yes"])
