import unittest

from surewatch.beside import compared
from surewatch.desk import Desk
from surewatch.errors import NoName, NoRow, NoText, SureError, TooMany, Twice
from surewatch.judges import judge_of
from surewatch.reading import read_row
from surewatch.room import Watch
from surewatch.rooms import room_told
from surewatch.settling import settled_by
from surewatch.tables import happenings_of
from surewatch.texts import shown, shown_row, shown_table
from surewatch.weaving import woven
from tests.plain import ONE_MORE, SMALL, TABLE, WIDE, Maker, ask

WORDS = ("watch", "drop", "take", "lay", "say", "word", "room", "said", "most", "never", "compare", "judge", "woven",
         "hands", "from", "meet")


class Telling(unittest.TestCase):

    def desk(self, *rows, table="a.0 b.0"):
        desk = Desk(table)
        for row in rows:
            desk.say(row)
        return desk

    # All that a desk tells of its watches and hands.
    def state(self, desk):
        told = []
        for name in ("a", "b", "c", "one", "two"):
            for word in ("word", "room", "said", "lay", "most", "never", "judge", "woven"):
                told.append(ask(desk.say, f"{word} {name}"))
        return told

    def answers(self, desk, *rows):
        for row, wanted in rows:
            told = desk.say(row)
            self.assertEqual((type(told), told), (str, wanted), row)

    def refused(self, desk, row, error, **fields):
        before = self.state(desk)
        told = ask(desk.say, row)
        self.assertEqual(told[0], error, row)
        if fields:
            self.assertEqual(told[1], fields, row)
        self.assertEqual(self.state(desk), before, row)


class MadeTest(Telling):

    def test_refused_as_a_table_is_read(self):
        for text, at in (("", 0), ("a", 0), ("a.0 a.1", 1), ("a.0  b.0", 1), ("a.5 b.5 c.0", 2), ("-", 0)):
            self.assertEqual(ask(Desk, text), (NoText, {"at": at}))

    def test_at_first(self):
        desk = self.desk()
        self.answers(desk, ("say a.0", "-"), ("from one a.0", "ok"), ("meet", "ok"))
        self.refused(desk, "word one", NoName, name="one")
        self.refused(desk, "from two a.0", NoName, name="two")


class WatchesTest(Telling):

    def test_watch_and_say(self):
        desk = self.desk("watch a some now name a", "watch b always now name a")
        self.answers(desk, ("word a", "open"), ("word b", "open"), ("said a", "0"), ("room a", "1"),
                     ("say a.0", "a yes"), ("say a.0", "-"), ("say b.0", "b no"), ("say b.0", "-"),
                     ("word a", "yes"), ("word b", "no"), ("said a", "4"), ("room b", "0"))

    def test_by_names_rising(self):
        desk = self.desk("watch zz now name a", "watch b now name b", "watch ab now any", "watch a always now name a")
        self.answers(desk, ("say b.0", "a no, ab yes, b yes, zz no"), ("say b.0", "-"))

    def test_a_watch_goes_from_where_it_was_made(self):
        desk = self.desk("say b.0", "watch a now name a", "say a.0", "watch b now name a")
        self.answers(desk, ("word a", "yes"), ("said a", "1"), ("word b", "open"), ("said b", "0"), ("say b.0", "b no"))

    def test_drop(self):
        desk = self.desk("watch a now name a", "watch b now name b")
        self.answers(desk, ("drop a", "ok"), ("say a.0", "b no"))
        self.refused(desk, "word a", NoName, name="a")
        self.refused(desk, "most a", NoName, name="a")
        self.refused(desk, "drop a", NoName, name="a")
        self.answers(desk, ("watch a now name a", "ok"), ("word a", "open"), ("said a", "0"), ("judge a", "3"))

    def test_lay_and_take(self):
        desk = self.desk("watch a some now name a", "say b.0")
        self.answers(desk, ("lay a", "a.0 b.0 / said 1 / bunch / on some now name a"),
                     ("take b a.0 b.0 / said 1 / bunch / on some now name a", "ok"), ("word b", "open"),
                     ("said b", "1"), ("say a.0", "a yes, b yes"), ("lay b", "a.0 b.0 / said 2 / bunch"),
                     ("take c a.0 b.0 / said 7", "ok"), ("lay c", "a.0 b.0 / said 7"), ("word c", "no"))

    def test_a_watch_taken_up_has_no_saying(self):
        desk = self.desk("watch a some now name a", "take b a.0 b.0 / said 1 / bunch / on some now name a")
        for word in ("most", "never", "judge", "woven"):
            self.refused(desk, f"{word} b", NoName, name="b")
        self.refused(desk, "compare a b", NoName, name="b")
        self.refused(desk, "compare b a", NoName, name="b")
        self.answers(desk, ("drop b", "ok"), ("watch b some now name b", "ok"), ("compare a b", "parted"))
        self.answers(desk, ("drop b", "ok"), ("take b a.0 b.0 / said 0", "ok"))
        self.refused(desk, "judge b", NoName, name="b")

    def test_watches_as_they_are_by_themselves(self):
        for seed in range(60):
            maker = Maker(seed)
            sayings = {name: maker.saying(8) for name in ("b", "a", "ab")}
            desk = Desk(shown_table(SMALL))
            watches = {name: Watch(SMALL, saying) for name, saying in sayings.items()}
            for name, saying in sayings.items():
                desk.say(f"watch {name} {shown(saying)}")
            for happening in maker.row(SMALL, 6):
                before = {name: watch.tells() for name, watch in watches.items()}
                after = {name: watch.say(happening) for name, watch in watches.items()}
                turned = [f"{name} {after[name]}" for name in sorted(after) if after[name] != before[name]]
                self.answers(desk, ("say " + shown_row((happening,)), ", ".join(turned) or "-"))
                for name, watch in watches.items():
                    self.answers(desk, (f"word {name}", watch.tells()), (f"room {name}", str(watch.room())),
                                 (f"said {name}", str(watch.said())))
                    self.assertEqual(sorted(desk.say(f"lay {name}").split(" / ")), sorted(watch.laid_down()))
            for name, saying in sayings.items():
                desk.say(f"take c {desk.say(f'lay {name}')}")
                self.answers(desk, ("word c", watches[name].tells()), ("room c", str(watches[name].room())),
                             ("drop c", "ok"))


class SayingsTest(Telling):

    def test_of_the_saying(self):
        desk = self.desk("watch a some now name a", "watch b always some now name a", "watch c now name a",
                         "watch d yes", "watch e till yes now name a", "say a.0", "say b.0")
        self.answers(desk, ("most a", "1"), ("most b", "2"), ("most d", "0"), ("never a", "settled a.0 yes"),
                     ("never b", "never"), ("never d", "settled - yes"), ("compare c a", "within"),
                     ("compare a c", "around"), ("compare a e", "alike"), ("compare a a", "alike"),
                     ("compare a b", "parted"), ("judge a", "2"), ("judge b", "2"), ("judge d", "1"), ("judge c", "3"))

    def test_longer_rows(self):
        desk = self.desk("watch a next next now less 1", "watch b not next next yes", table="a.0")
        self.answers(desk, ("never a", "settled a.0 a.0 a.0 yes"), ("never b", "settled a.0 a.0 no"))

    def test_as_they_are_told_elsewhere(self):
        for seed in range(60):
            maker = Maker(seed)
            one, other = maker.saying(7), maker.saying(7)
            desk = self.desk(f"watch one {shown(one)}", f"watch other {shown(other)}", table=shown_table(SMALL))
            told = desk.say("never one").split(" ")
            wanted = settled_by(SMALL, one)
            if wanted[0] == "never":
                self.assertEqual(told, ["never"])
            else:
                row = read_row(SMALL, " ".join(told[1:-1]))
                self.assertEqual((told[0], len(row), told[-1]), ("settled", len(wanted[1]), wanted[2][0]))
            self.answers(desk, ("most one", str(room_told(SMALL, one)[0])), ("compare one other", compared(
                SMALL, one, other)[0]), ("judge other", str(len(judge_of(SMALL, other)[0]))))


class HandsTest(Telling):

    def test_rounds(self):
        desk = self.desk("watch a now name a", "hands x y")
        self.answers(desk, ("woven a", "open"), ("from x a.0", "ok"), ("woven a", "yes"), ("from y b.0", "ok"),
                     ("woven a", "open"), ("hands x y", "ok"), ("woven a", "open"), ("from x a.0", "ok"),
                     ("meet", "ok"), ("from y b.0", "ok"), ("woven a", "yes"), ("word a", "open"), ("said a", "0"))

    def test_one_hand_at_first(self):
        desk = self.desk("watch a both now name a next now name b")
        self.answers(desk, ("from one a.0", "ok"), ("from one b.0", "ok"), ("woven a", "yes"))

    def test_these_are_the_hands_from_here_on(self):
        desk = self.desk("watch a now name a", "from one a.0", "meet", "hands x one")
        self.answers(desk, ("woven a", "open"), ("from x b.0", "ok"), ("woven a", "no"), ("hands two", "ok"),
                     ("from two a.0", "ok"), ("woven a", "yes"))
        for hand in ("one", "x"):
            self.refused(desk, f"from {hand} a.0", NoName, name=hand)
        for row in ("hands a", "hands a b", "hands abcdefgh b c d"):
            self.answers(desk, (row, "ok"))

    # What is said to watches is no hand's, and the other way about.
    def test_say_is_no_hands(self):
        desk = self.desk("watch a now name a", "say b.0")
        self.answers(desk, ("word a", "no"), ("woven a", "open"), ("from one a.0", "ok"), ("woven a", "yes"),
                     ("word a", "no"), ("said a", "1"))

    # Hands and watches may have the same names.
    def test_names_of_hands_are_their_own(self):
        desk = self.desk("hands a b", "watch a now name a", "from b b.0")
        self.answers(desk, ("woven a", "no"))
        self.refused(desk, "word b", NoName, name="b")
        self.refused(desk, "woven b", NoName, name="b")

    def test_a_ninth_happening_and_a_fifth_round(self):
        desk = self.desk("watch a always now name a", "hands x y", *["from x a.0", "from y a.0"] * 4)
        self.refused(desk, "from x a.0", TooMany, word="happenings")
        self.refused(desk, "from x c.0", NoText, at=0)
        self.refused(desk, "from z a.0", NoName, name="z")
        for row in ("meet", "meet", "meet"):
            self.answers(desk, (row, "ok"), ("from y a.0", "ok"))
        self.refused(desk, "meet", TooMany, word="rounds")
        self.answers(desk, ("from y b.0", "ok"), ("woven a", "no"), ("hands x", "ok"), ("meet", "ok"))

    def test_as_they_are_woven_elsewhere(self):
        for seed in range(60):
            maker = Maker(seed)
            saying = maker.saying(6)
            desk = self.desk(f"watch a {shown(saying)}", "hands x y", table=shown_table(SMALL))
            rounds = [[(), ()]]
            for _ in range(7):
                if maker.pick((True, False, False)) and len(rounds) < 4:
                    desk.say("meet")
                    rounds.append([(), ()])
                else:
                    hand, happening = maker.random.randrange(2), maker.pick(happenings_of(SMALL))
                    desk.say(f"from {'xy'[hand]} {shown_row((happening,))}")
                    rounds[-1][hand] += (happening,)
            self.answers(desk, ("woven a", woven(SMALL, saying, tuple(tuple(rows) for rows in rounds))[0]))


class NoRowTest(Telling):

    def setUp(self):
        self.full = self.desk("watch a some now name a", "take b a.0 b.0 / said 3 / bunch", "from one b.0", "say b.0")

    def test_first_words(self):
        for row in ("", " ", "-", "ok", "Watch c yes", "watches", " meet", "a", "yes", "close a", "saya.0", "from_"):
            self.refused(self.full, row, NoRow)

    def test_rows_of_one_word(self):
        for word in WORDS:
            if word != "meet":
                self.refused(self.full, word, NoRow)
        self.answers(self.full, ("meet", "ok"))

    def test_counts_of_words(self):
        for row in ("watch c", "take c", "drop a b", "lay a b", "lay a ", "say a.0 b.0", "say a.0 ", "word a a",
                    "room a b", "said a b", "most a b", "never a b", "compare a", "compare a b c", "judge a b",
                    "woven a b", "from one", "from one a.0 b.0", "from one a.0 ", "meet ", "meet a", "hands a b c d e",
                    "drop  a"):
            self.refused(self.full, row, NoRow)

    def test_names(self):
        for name in ("", "A", "1", "abcdefghi", "a.0", "a1", "-"):
            for word in ("drop", "lay", "word", "room", "said", "most", "never", "judge", "woven", "hands"):
                self.refused(self.full, f"{word} {name}", NoRow)
            for row in (f"watch {name} yes", f"take {name} a.0 b.0 / said 0", f"compare {name} a", f"compare a {name}",
                        f"from {name} a.0", f"hands a {name}", f"hands {name} a"):
                self.refused(self.full, row, NoRow)

    def test_hands_by_names_that_are_like_one_another(self):
        for row in ("hands a a", "hands a b a", "hands a b c c", "hands a  b", "hands a b "):
            self.refused(self.full, row, NoRow)

    def test_ahead_of_all_else(self):
        for row in ("drop c c", "compare c", "word strange b", "watch a", "take a", "say strange strange", "from two",
                    "from two strange strange", "compare A c", "from two a.0 "):
            self.refused(self.full, row, NoRow)


class RefusedTest(Telling):

    def setUp(self):
        self.full = self.desk("watch a some now name a", "take b a.0 b.0 / said 3 / bunch", "from one b.0", "say b.0")

    def test_twice(self):
        for name in ("a", "b"):
            for row in ("watch {} yes", "watch {} strange", "watch {} ", "take {} a.0 b.0 / said 0", "take {} strange"):
                self.refused(self.full, row.format(name), Twice, name=name)

    def test_no_name(self):
        for word in ("drop", "lay", "word", "room", "said", "most", "never", "judge", "woven"):
            self.refused(self.full, f"{word} c", NoName, name="c")
            self.refused(self.full, f"{word} one", NoName, name="one")
        self.refused(self.full, "compare a c", NoName, name="c")
        self.refused(self.full, "compare c a", NoName, name="c")
        told = ask(self.full.say, "compare c d")
        self.assertIn(told, ((NoName, {"name": "c"}), (NoName, {"name": "d"})))
        for hand in ("two", "a", "b"):
            self.refused(self.full, f"from {hand} a.0", NoName, name=hand)
            self.refused(self.full, f"from {hand} strange", NoName, name=hand)

    def test_no_saying(self):
        for text, at in (("", 0), (" ", 0), (" yes", 0), ("yes ", 1), ("strange", 0), ("not", 1), ("both yes", 2),
                         ("now same x", 2), ("yes yes", 1), ("both  yes yes", 1), ("now name b.0", 2),
                         ("not not -", 2)):
            self.refused(self.full, f"watch c {text}", NoText, at=at)

    def test_no_lines(self):
        for text, at in (("", 0), (" ", 0), ("a.0 b.0", 1), ("a.0 b.0 / ", 1), ("a.0 b.0 /  / bunch", 1),
                         ("strange", 0), ("a.0 b.0 / said 3 / ", 2), ("a.0 b.0 / said 03", 1),
                         ("a.0 b.0 / said 3 / on now any", 2), ("a.0 b.0 / said 3 / bunch / on yes", 3),
                         ("a.0 b.0 / said 3 / bunch / bunch / on", 4),
                         ("a.0 b.0/ said 3", 0), ("a.0 b.0 / said 3 /", 1), (" / said 3", 0), ("a.0 b.0 / said 3 ", 1)):
            self.refused(self.full, f"take c {text}", NoText, at=at)

    # Wrong lines are refused by what is wrong in them, right ones of another table by the first line.
    def test_lines_of_another_table(self):
        for table in ("a.0", "b.0 a.0", "a.1 b.0", "a.0 b.0 c.0", "c.0"):
            self.refused(self.full, f"take c {table} / said 3 / bunch", NoText, at=0)
            self.refused(self.full, f"take c {table} / said 3 / bunch / on yes", NoText, at=3)
        wide = f"{shown_table(WIDE)} / said 0 / bunch / on {shown(ONE_MORE)}"
        self.refused(self.full, f"take c {wide}", NoText, at=0)

    def test_no_one_happening(self):
        for word in ("", "-", "a", "a.1", "c.0", "A.0", "a.", ".0", "a.00", "a.0.0", "strange"):
            self.refused(self.full, f"say {word}", NoText, at=0)
            self.refused(self.full, f"from one {word}", NoText, at=0)

    def test_more_than_three_hundred_stands(self):
        desk = self.desk("watch a yes", table=shown_table(WIDE))
        self.refused(desk, f"watch c {shown(ONE_MORE)}", TooMany, word="stands")
        lines = f"{shown_table(WIDE)} / said 0 / bunch / on {shown(ONE_MORE)}"
        self.refused(desk, f"take c {lines}", TooMany, word="stands")
        self.refused(desk, f"watch a {shown(ONE_MORE)}", Twice, name="a")
        self.refused(desk, f"take c {lines} / on", NoText, at=4)
        self.answers(desk, (f"watch c either yes {shown(ONE_MORE)}", "ok"))


class WholeTest(Telling):

    def test_two_desks_go_each_its_own_way(self):
        one, other = self.desk("watch a now name a"), self.desk("watch a now name a")
        one.say("say a.0")
        one.say("from one a.0")
        one.say("watch b yes")
        self.answers(other, ("word a", "open"), ("said a", "0"), ("woven a", "open"), ("watch b no", "ok"))
        self.answers(one, ("word b", "yes"), ("word a", "yes"))

    # Whatever rows: an answer that is a text, or a refusal that changes nothing.
    def test_made_rows(self):
        for seed in range(40):
            maker = Maker(seed)
            desk = Desk(shown_table(TABLE))
            for _ in range(60):
                rests = ("", " a", " b", " a b", " one", " a.1", " one b.2", " c.0", " a yes",
                         f" b {shown(maker.saying(5))}", f" a {shown(maker.saying(5))}", " x y",
                         " b a.2 b.2 / said 4 / bunch / on now any")
                row = maker.pick(WORDS) + maker.pick(rests)
                before = self.state(desk)
                told = ask(desk.say, row)
                if isinstance(told, tuple):
                    self.assertTrue(issubclass(told[0], SureError))
                    self.assertEqual(self.state(desk), before, row)
                else:
                    self.assertIs(type(told), str)

    def test_tables_of_many_names(self):
        desk = self.desk("watch a each ask x some both now name tell now same x", table="ask.2 tell.2 nod.0 halt.4")
        self.answers(desk, ("say ask.2", "-"), ("room a", "2"), ("say nod.0", "-"), ("say tell.2", "-"),
                     ("room a", "1"), ("said a", "3"), ("never a", "never"))
