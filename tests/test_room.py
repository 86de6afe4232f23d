import unittest

from surewatch.errors import NoHappening, NoText, TooMany
from surewatch.going import gone_by
from surewatch.reading import read_saying
from surewatch.room import Watch, taken_up
from surewatch.stands import alike, laid
from surewatch.tables import happenings_of
from surewatch.texts import shown, shown_table
from surewatch.verdicts import word_of, words
from tests.plain import (ONE_MORE, SMALL, STRANGE, TABLE, THREE_HUNDRED, TWO, WIDE, Maker, as_sets, ask, is_trimmed,
                         plain_by, plain_holds, plain_laid, plain_room, plain_trim, plain_word)
from tests.things import MANY, SOME_A, a, b

TOO_MANY = (TooMany, {"word": "stands"})


def no_text(at):
    return (NoText, {"at": at})


# All that a watch tells, the order of its bunches and things aside.
def state(watch):
    return (watch.tells(), watch.room(), watch.said(), as_sets(watch.stand()), sorted(watch.laid_down()))


class WatchTest(unittest.TestCase):

    def watch(self, text, table=TWO):
        return Watch(table, read_saying(text))

    def test_ahead_of_any_happening(self):
        for text, word, room in (("yes", "yes", 0), ("no", "no", 0), ("some now name a", "open", 1),
                                 ("either now name a next now name b", "open", 2), ("always now any", "yes", 1),
                                 ("both now name a next now name b", "open", 2), ("some no", "no", 1)):
            watch = self.watch(text)
            self.assertEqual((watch.tells(), watch.room(), watch.said()), (word, room, 0), text)
            self.assertTrue(alike(watch.stand(), laid(read_saying(text), True)))

    def test_words_and_rooms(self):
        watch = self.watch("always some now name a")
        self.assertEqual(watch.room(), 1)
        for happening, word, room in ((b, "open", 2), (b, "open", 2), (a, "open", 1), (a, "open", 1), (b, "open", 2)):
            self.assertEqual(watch.say(happening), word)
            self.assertEqual((watch.tells(), watch.room()), (word, room))
        self.assertEqual(watch.said(), 5)
        watch = self.watch("till not now name b both now name a next now name a")
        self.assertEqual([watch.say(happening) for happening in (a, a, b, b)], ["open", "yes", "yes", "yes"])
        watch = self.watch("always now name a")
        self.assertEqual([watch.say(happening) for happening in (a, b, a)], ["open", "no", "no"])
        self.assertEqual((watch.room(), watch.stand()), (0, ()))

    def test_room_counts_things_as_often_as_they_stand_there(self):
        self.assertEqual(self.watch("both now name a either next yes now any").room(), 4)
        self.assertEqual(self.watch("both now name a either next yes now name a").room(), 1)

    def test_kinds(self):
        watch = self.watch("some now name a")
        for told, kind in ((watch.say(b), str), (watch.tells(), str), (watch.room(), int), (watch.said(), int),
                           (watch.stand(), tuple), (watch.laid_down(), list)):
            self.assertIs(type(told), kind)

    def test_against_the_plain_words(self):
        for seed in range(150):
            maker = Maker(seed)
            saying, row = maker.saying(), maker.row(SMALL, 8)
            watch = Watch(SMALL, saying)
            told = [watch.tells()]
            for place, happening in enumerate(row):
                told.append(watch.say(happening))
                stand = plain_by(plain_laid(saying, True), row[:place + 1])
                self.assertEqual(as_sets(watch.stand()), plain_trim(stand))
                self.assertTrue(is_trimmed(watch.stand()))
                self.assertEqual((watch.room(), watch.said()), (plain_room(stand), place + 1))
                self.assertEqual(watch.tells(), word_of(SMALL, watch.stand()))
            self.assertEqual(told, words(SMALL, saying, row))

    def test_against_rows_gone_through_one_by_one(self):
        for seed in range(60):
            maker = Maker(seed)
            saying, row = maker.saying(4), maker.row(TWO, 4)
            watch = Watch(TWO, saying)
            for happening in row:
                watch.say(happening)
            self.assertEqual(watch.tells(), plain_word(TWO, lambda whole: plain_holds(saying, whole, 0), row, 6))

    def test_strange_happenings_change_nothing(self):
        watch = self.watch("always some now name a", TABLE)
        watch.say(("b", 1))
        before = state(watch)
        for thing in STRANGE + (("c", 0), ("a", 3), ("a", -1), ("a", True), ["a", 0], ("a", "0"), ("a", 0, 0), (a, b)):
            if thing != ("a", 1):
                with self.assertRaises(NoHappening, msg=thing):
                    watch.say(thing)
                self.assertEqual(state(watch), before)
        self.assertEqual(watch.say(("a", 2)), "open")
        self.assertEqual((watch.said(), watch.room()), (2, 1))

    def test_two_watches_go_each_its_own_way(self):
        one, other = self.watch("some now name a"), self.watch("some now name a")
        third = taken_up(one.laid_down())
        self.assertEqual(one.say(a), "yes")
        self.assertEqual((other.tells(), other.said(), third.tells(), third.said()), ("open", 0, "open", 0))
        self.assertEqual(other.say(b), "open")
        self.assertEqual((one.tells(), one.said(), third.said()), ("yes", 1, 0))

    def test_told_lists_may_be_changed(self):
        watch = self.watch("always some now name a")
        lines = watch.laid_down()
        kept = list(lines)
        lines.clear()
        self.assertEqual(sorted(watch.laid_down()), sorted(kept))
        lines = watch.laid_down()
        other = taken_up(lines)
        lines[0] = "c.0"
        self.assertEqual(state(other), state(watch))

    def test_more_than_three_hundred_stands(self):
        self.assertEqual(ask(Watch, WIDE, ONE_MORE), TOO_MANY)
        self.assertEqual(ask(Watch, WIDE, MANY), TOO_MANY)
        watch = Watch(TABLE, THREE_HUNDRED)
        for happening in happenings_of(TABLE) * 3:
            watch.say(happening)
        self.assertEqual(watch.tells(), words(TABLE, THREE_HUNDRED, happenings_of(TABLE) * 3)[-1])

    def test_many_happenings(self):
        watch = self.watch("always some now name a")
        for number in range(3000):
            watch.say(a if number % 3 else b)
        self.assertEqual((watch.said(), watch.room(), watch.tells()), (3000, 1, "open"))


class LaidDownTest(unittest.TestCase):

    def test_lines(self):
        watch = Watch(TWO, SOME_A)
        self.assertEqual(watch.laid_down(), ["a.0 b.0", "said 0", "bunch", "on some now name a"])
        watch.say(a)
        self.assertEqual(watch.laid_down(), ["a.0 b.0", "said 1", "bunch"])
        watch.say(b)
        self.assertEqual(watch.laid_down(), ["a.0 b.0", "said 2", "bunch"])
        watch = Watch((("tell", 5), ("a", 0)), ("not", SOME_A))
        self.assertEqual(watch.laid_down(), ["tell.5 a.0", "said 0", "bunch", "off some now name a"])
        watch.say(("a", 0))
        self.assertEqual(watch.laid_down(), ["tell.5 a.0", "said 1"])

    def test_each_bunch_with_its_things(self):
        for seed in range(150):
            maker = Maker(seed)
            saying, row = maker.saying(), maker.row(SMALL, 5)
            watch = Watch(SMALL, saying)
            for happening in row:
                watch.say(happening)
            lines = watch.laid_down()
            self.assertEqual(lines[:2], [shown_table(SMALL), f"said {len(row)}"])
            bunches = "\n".join(lines[2:]).split("bunch")
            told = {frozenset(bunch.split("\n")) - {""} for bunch in bunches[1:]}
            self.assertEqual(bunches[0], "")
            wanted = {frozenset(("on " if truth else "off ") + shown(basic) for basic, truth in bunch)
                      for bunch in plain_trim(plain_by(plain_laid(saying, True), row))}
            self.assertEqual((told, len(bunches) - 1), (wanted, len(wanted)))
            self.assertEqual(len(lines) - 2 - len(wanted), watch.room())


class TakenUpTest(unittest.TestCase):

    # A watch taken up and the one laid down are told the same row, and tell the same.
    def go_alike(self, one, other, row):
        self.assertEqual(state(one), state(other))
        for happening in row:
            self.assertEqual(one.say(happening), other.say(happening))
            self.assertEqual(state(one), state(other))

    def test_it_goes_on_as_the_one_laid_down(self):
        for seed in range(150):
            maker = Maker(seed)
            saying = maker.saying()
            watch = Watch(SMALL, saying)
            for happening in maker.row(SMALL, 5):
                watch.say(happening)
            self.go_alike(watch, ask(taken_up, watch.laid_down()), maker.row(SMALL, 5))

    def test_ahead_of_any_happening_and_behind_many(self):
        for table, saying in ((TABLE, THREE_HUNDRED), (TWO, read_saying("always some now name a"))):
            watch = Watch(table, saying)
            self.go_alike(watch, taken_up(watch.laid_down()), happenings_of(table) * 20)
            self.go_alike(watch, taken_up(watch.laid_down()), happenings_of(table))

    def test_stands_without_bunches_and_bunches_without_things(self):
        watch = ask(taken_up, ["a.0 b.0", "said 7"])
        self.assertEqual((watch.tells(), watch.room(), watch.said(), watch.stand()), ("no", 0, 7, ()))
        self.assertEqual(watch.say(a), "no")
        watch = ask(taken_up, ["a.0 b.0", "said 7", "bunch"])
        self.assertEqual((watch.tells(), watch.room(), watch.said(), watch.stand()), ("yes", 0, 7, ((),)))
        self.assertEqual((watch.say(b), watch.said()), ("yes", 8))
        self.assertEqual(watch.laid_down(), ["a.0 b.0", "said 8", "bunch"])

    # Whoever wrote them: the stand is trimmed.
    def test_lines_of_any_writer(self):
        lines = ["a.0 b.0", "said 12", "bunch", "on some now name a", "on some now name a", "bunch", "off now any",
                 "on some now name a", "bunch", "on now any", "off now any", "bunch", "on some now name a"]
        watch = ask(taken_up, lines)
        self.assertEqual(sorted(watch.laid_down()), sorted(["a.0 b.0", "said 12", "bunch", "on some now name a"]))
        self.assertEqual((watch.room(), watch.tells()), (1, "open"))
        for seed in range(150):
            maker = Maker(seed)
            stand = maker.stand(4, 3)
            lines = [shown_table(SMALL), "said 3"]
            for bunch in stand:
                lines += ["bunch"] + [("on " if truth else "off ") + shown(basic) for basic, truth in bunch]
            watch = ask(taken_up, lines)
            self.assertEqual(as_sets(watch.stand()), plain_trim(stand))
            self.assertTrue(is_trimmed(watch.stand()))
            self.assertEqual((watch.tells(), watch.room()), (word_of(SMALL, stand), plain_room(stand)))
            row = maker.row(SMALL, 3)
            for happening in row:
                watch.say(happening)
            self.assertTrue(alike(watch.stand(), gone_by(stand, row)))
            self.assertEqual(watch.said(), 3 + len(row))

    def test_how_many_were_said(self):
        for count in (0, 1, 9, 10, 100, 999999998):
            watch = ask(taken_up, ["a.0", f"said {count}", "bunch"])
            self.assertEqual(watch.said(), count)
            watch.say(a)
            self.assertEqual(watch.laid_down()[1], f"said {count + 1}")

    def test_more_than_three_hundred_stands(self):
        lines = [shown_table(WIDE), "said 0", "bunch", "on " + shown(ONE_MORE)]
        self.assertEqual(ask(taken_up, lines), TOO_MANY)
        self.assertEqual(ask(taken_up, lines + ["bunch"]).tells(), "yes")
        self.assertEqual(ask(taken_up, lines + ["on"]), no_text(4))


class RefusedTest(unittest.TestCase):

    LINES = ["a.0 b.0", "said 3", "bunch", "on some now name a", "off now any", "bunch", "on always now same 0"]

    def refused(self, at, lines):
        self.assertEqual(ask(taken_up, lines), no_text(at), lines)

    # Each line bent by itself, and with all lines behind it bent too: the first one is told.
    def bent(self, at, *lines):
        for line in lines:
            self.refused(at, self.LINES[:at] + [line] + self.LINES[at + 1:])
            self.refused(at, self.LINES[:at] + [line] * (len(self.LINES) - at))

    def test_they_are_right_unbent(self):
        self.assertEqual(taken_up(self.LINES).room(), 3)

    def test_lines_that_lack(self):
        self.refused(0, [])
        self.refused(1, ["a.0 b.0"])
        self.refused(0, ["said 3"])
        self.refused(0, self.LINES[1:])
        self.refused(1, self.LINES[:1] + self.LINES[2:])

    def test_the_tables_text(self):
        self.bent(0, "", "-", "a", "a.6", "a.0 a.1", "a.0  b.0", "a.0 b.0 ", " a.0", "a.5 b.5 c.0", "said 3", "bunch",
                  "a.0 b.0 c.0 d.0 e.0", "A.0", "a.0, b.0", "a.00")

    def test_how_many_were_said(self):
        self.bent(1, "", "said", "said ", "said 00", "said 03", "said -1", "said 3 ", " said 3", "said  3", "said x",
                  "said 1000000000", "said 0123456789", "said 1.0", "Said 3", "said 3 3", "bunch", "3", "said +3",
                  "said 1_0", "said three")

    def test_a_thing_ahead_of_any_bunch(self):
        self.bent(2, "on now any", "off some now name a", "on")
        self.refused(2, ["a.0 b.0", "said 3", "on now any"])

    def test_texts_that_are_no_basics(self):
        for at in (3, 4, 6):
            self.bent(at, "", "on", "off", "on ", "off ", "some now name a", "on yes", "off no", "on not now any",
                      "on both now any now any", "off either now any now any", "on now", "on some",
                      "on some now name a ",
                      "on  some now name a", " on now any", "On now any", "on now same x", "on within 6 yes", "bunch ",
                      " bunch", "Bunch", "bunch 1", "said 3", "a.0 b.0", "onnow any", "of now any", "on now any any",
                      "on each a x now same y", "bunches")

    def test_the_bounds_of_sayings(self):
        eight = "on " + "next " * 7 + "yes"
        self.assertEqual(taken_up(self.LINES[:3] + [eight]).room(), 1)
        self.bent(3, "on " + "next " * 8 + "yes", "on each a x each a x each a x each a x yes")

    def test_nothing_is_changed(self):
        lines = self.LINES[:3] + ["nothing"]
        self.refused(3, lines)
        self.assertEqual(lines, self.LINES[:3] + ["nothing"])
