import unittest

from surewatch.errors import NoText
from surewatch.reading import read_row, read_saying, read_table
from surewatch.sayings import is_saying
from surewatch.texts import shown
from tests.plain import TABLE, Maker

HEADS = ("yes", "no", "now", "not", "both", "either", "next", "till", "within", "always", "some", "each", "one")


class Refusing(unittest.TestCase):

    def refused(self, at, read, *things):
        with self.assertRaises(NoText, msg=things) as taken:
            read(*things)
        self.assertEqual(taken.exception.at, at, things)


class SayingTest(Refusing):

    def all_refused(self, *wanted):
        for text, at in wanted:
            self.refused(at, read_saying, text)

    def test_no_word_where_a_saying_begins(self):
        self.all_refused(("", 0), ("maybe", 0), ("Yes", 0), ("any", 0), ("3", 0), (" yes", 0), ("not maybe", 1),
                         ("both yes a", 2), ("not  yes", 1), ("till no -", 2), ("within 3 3", 2), ("each a x a", 3))

    def test_no_word_of_a_test(self):
        self.all_refused(("now yes", 1), ("now Any", 1), ("now ", 1), ("now 3", 1), ("not now name", 3),
                         ("each a x now x", 4), ("both now a yes", 2))

    def test_no_name(self):
        self.all_refused(("now name A", 2), ("now name abcdefghi", 2), ("now name ", 2), ("now name 1", 2),
                         ("each A x yes", 1), ("each a 1 yes", 2), ("one a abcdefghi yes", 2), ("one  x yes", 1),
                         ("each a  yes", 2), ("one 1 2 yes", 1))
        self.assertEqual(read_saying("each yes now no"), ("each", "yes", "now", ("no",)))
        self.assertEqual(read_saying("now name abcdefgh"), ("now", ("name", "abcdefgh")))

    def test_no_figure(self):
        self.all_refused(("within 6 yes", 1), ("within 9 yes", 1), ("within 05 yes", 1), ("within -1 yes", 1),
                         ("within  yes", 1), ("within yes", 1), ("within x yes", 1), ("now less 10", 2),
                         ("now same 01", 2), ("now more ", 2), ("now more -1", 2), ("now more +", 2),
                         ("now less 1.", 2), ("each a x within x yes", 4))

    def test_each_figure(self):
        for figure in range(10):
            self.assertEqual(read_saying(f"now more {figure}"), ("now", ("more", figure)))
            if figure <= 5:
                self.assertEqual(read_saying(f"within {figure} no"), ("within", figure, ("no",)))

    def test_a_variable_that_none_around_binds(self):
        self.all_refused(("now same x", 2), ("each a x now less y", 5), ("each x y now same x", 5),
                         ("both each a x now same x now same x", 9), ("both now same x each a x yes", 3))
        both = ("both", ("now", ("same", "x")), ("now", ("less", "y")))
        self.assertEqual(read_saying("each a x one b y both now same x now less y"),
                         ("each", "a", "x", ("one", "b", "y", both)))

    def test_a_word_too_many(self):
        self.all_refused(("yes yes", 1), ("yes ", 1), ("not yes no", 2), ("now any any", 2), ("now same 3 ", 3),
                         ("both yes no maybe", 3), ("yes  ", 1), ("now any x", 2), ("yes maybe 3 x", 1))

    def test_words_that_lack(self):
        self.all_refused(("now", 1), ("not", 1), ("both", 1), ("both yes", 2), ("till not yes", 3), ("within", 1),
                         ("within 3", 2), ("each", 1), ("each a", 2), ("each a x", 3), ("now name", 2), ("now less", 2),
                         ("one a x now same", 5), ("either both yes yes", 4))

    def test_every_text_cut_short_lacks_words(self):
        for seed in range(100):
            words = shown(Maker(seed).saying(16)).split(" ")
            for count in range(1, len(words)):
                self.refused(count, read_saying, " ".join(words[:count]))

    def test_where_the_seventeenth_begins(self):
        fifteen = "both both both yes yes both yes yes both both yes yes both yes yes"
        self.assertIs(is_saying(read_saying("not " + fifteen)), True)
        sixteen = fifteen.replace("both yes yes", "both yes not yes", 1)
        self.assertIs(is_saying(read_saying(sixteen)), True)
        self.refused(16, read_saying, "not " + sixteen)
        self.refused(17, read_saying, "within 3 " + sixteen)
        self.refused(16, read_saying, "not " + sixteen[:-3] + "maybe")
        self.refused(16, read_saying, "not " + sixteen[:-4])

    def test_one_within_eight_others(self):
        self.assertIs(is_saying(read_saying("not " * 7 + "yes")), True)
        self.refused(8, read_saying, "not " * 8 + "yes")
        self.refused(8, read_saying, "not " * 12 + "yes")
        self.refused(9, read_saying, "both yes " + "next " * 7 + "no")
        self.refused(9, read_saying, "within 3 " + "some " * 7 + "yes")

    def test_the_fourth_each_or_one(self):
        self.assertIs(is_saying(read_saying("each a x one a y each a z yes")), True)
        self.refused(9, read_saying, "each a x one a y each a z one a x yes")
        self.refused(9, read_saying, "one a x one a y one a z each a x yes")
        self.refused(15, read_saying, "both both each a x yes one a x yes both each a x yes one a x yes")

    def test_heads_read_with_what_they_want(self):
        for head in HEADS:
            begin = {"now": " any", "within": " 1", "each": " a x", "one": " a x"}.get(head, "")
            count = {"yes": 0, "no": 0, "now": 0, "both": 2, "either": 2, "till": 2}.get(head, 1)
            saying = read_saying(head + begin + " no" * count)
            self.assertIs(is_saying(saying), True)
            self.assertEqual(saying[0], head)

    def test_told_texts_are_read_as_whole_sayings_alone(self):
        words = HEADS + ("any", "name", "less", "same", "more", "a", "x", "3", "7", "")
        for seed in range(3000):
            maker = Maker(seed)
            text = " ".join(maker.pick(words) for _ in range(maker.random.randint(1, 6)))
            try:
                saying = read_saying(text)
            except NoText as refusal:
                self.assertIn(refusal.at, range(len(text.split(" ")) + 1))
            else:
                self.assertIs(is_saying(saying), True, text)
                self.assertEqual(shown(saying), text)


class RowTest(Refusing):

    def test_the_row_of_none(self):
        self.assertEqual(read_row(TABLE, "-"), ())

    def test_the_first_word_that_is_no_happening(self):
        for text, at in (("", 0), (" ", 0), ("a", 0), ("a.", 0), (".1", 0), ("a1", 0), ("a.3", 0), ("c.0", 0),
                         ("A.1", 0), ("a.01", 0), ("a.1.1", 0), ("a.x", 0), ("a.-", 0), ("-a.1", 0), ("--", 0),
                         ("- -", 0), ("a.1 -", 1), ("- a.1", 0), ("a.1 ", 1), (" a.1", 0), ("a.1  b.0", 1),
                         ("a.0 b.9 c.9", 1), ("a.0 b.0 a.2 b.3", 3), ("a.0,b.0", 0), ("a.10", 0), ("abcdefghi.0", 0)):
            self.refused(at, read_row, TABLE, text)

    def test_by_the_table(self):
        table = (("a", 0), ("b", 5))
        self.assertEqual(read_row(table, "b.5 a.0"), (("b", 5), ("a", 0)))
        self.refused(1, read_row, table, "b.5 a.1")


class TableTest(Refusing):

    def test_tables(self):
        self.assertEqual(read_table("b.1 a.2"), (("b", 1), ("a", 2)))
        self.assertEqual(read_table("a.5 b.5"), (("a", 5), ("b", 5)))
        self.assertEqual(read_table("a.0 b.0 c.0 d.5"), (("a", 0), ("b", 0), ("c", 0), ("d", 5)))

    def test_no_name_and_most(self):
        for text, at in (("", 0), ("-", 0), ("a", 0), ("a.", 0), (".1", 0), ("A.1", 0), ("a.x", 0), ("a.01", 0),
                         ("a.1.1", 0), ("abcdefghi.1", 0), ("a.1 ", 1), (" a.1", 0), ("a.1  b.1", 1), ("a.1 b", 1),
                         ("a.1 b.1 -", 2)):
            self.refused(at, read_table, text)

    def test_a_name_told_ahead(self):
        self.refused(1, read_table, "a.1 a.1")
        self.refused(2, read_table, "a.1 b.1 a.0 b.0")

    def test_a_most_above_five(self):
        self.refused(0, read_table, "a.6")
        self.refused(1, read_table, "a.0 b.9 c")

    def test_the_fifth(self):
        self.refused(4, read_table, "a.0 b.0 c.0 d.0 e.0")
        self.refused(4, read_table, "a.0 b.0 c.0 d.0 e.0 f.0")

    def test_more_than_twelve_happenings(self):
        self.assertEqual(read_table("a.5 b.4 c.0"), (("a", 5), ("b", 4), ("c", 0)))
        self.refused(2, read_table, "a.5 b.5 c.0")
        self.refused(2, read_table, "a.5 b.4 c.1")
        self.refused(3, read_table, "a.3 b.3 c.2 d.1")
