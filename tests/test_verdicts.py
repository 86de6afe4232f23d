import unittest

from surewatch.checker import lets_verdict
from surewatch.errors import TooMany
from surewatch.going import gone_by, met
from surewatch.reading import read_row, read_saying
from surewatch.stands import ends, is_stand, laid
from surewatch.tables import is_row
from surewatch.verdicts import first_sure, verdict, word_of, words
from tests.plain import (ONE_MORE, SMALL, TABLE, THREE_HUNDRED, TWO, WIDE, Maker, ask, is_trimmed, plain_holds,
                         plain_met, plain_word, rows_up_to, sure, word_by)

MANY = (TooMany, {"word": "stands"})
a, b = ("a", 0), ("b", 0)


# Small ones, whose verdicts rows of at most six happenings tell: they meet at most seven stands.
def small_sayings(count):
    found = []
    seed = 0
    while len(found) < count:
        saying = Maker(seed).saying(6)
        if len(plain_met(TWO, laid(saying, True))) <= 7:
            found.append(saying)
        seed += 1
    return found


class VerdictTest(unittest.TestCase):

    def told(self, saying, row, table=TWO):
        for handed in (tuple(row), list(row)):
            paper = ask(verdict, table, saying, handed)
            self.assertIs(type(paper), tuple)
            self.assertIs(ask(lets_verdict, table, saying, handed, paper), True, (saying, row))
            if paper[0] == "open":
                self.assertTrue(is_row(table, paper[1]) and is_row(table, paper[2]))
            else:
                self.assertTrue(all(is_stand(stand) and is_trimmed(stand) for stand in paper[1]))
        return paper

    def test_words(self):
        for text, row, word in (
                ("yes", "-", "yes"), ("no", "-", "no"), ("yes", "a.0", "yes"), ("some now name a", "-", "open"),
                ("some now name a", "b.0 b.0", "open"), ("some now name a", "b.0 a.0", "yes"),
                ("some now name a", "b.0 a.0 b.0", "yes"), ("always now name a", "a.0 a.0", "open"),
                ("always now name a", "a.0 b.0", "no"), ("always now any", "-", "yes"), ("some no", "-", "no"),
                ("now any", "-", "open"), ("now any", "a.0", "yes"), ("within 0 yes", "-", "no"),
                ("either some now name a always now name b", "-", "yes"),
                ("both some now name a always now name b", "-", "no"), ("each a x now same 0", "-", "yes"),
                ("one a x now more x", "-", "no"), ("next next yes", "a.0", "open"),
                ("next next yes", "a.0 a.0", "yes"),
                ("not always now any", "b.0", "no"), ("always some now name a", "a.0", "open")):
            self.assertEqual(self.told(read_saying(text), read_row(TWO, row))[0], word, (text, row))

    def test_the_table_counts(self):
        saying = read_saying("always now less 1")
        self.assertEqual(self.told(saying, (), (("a", 0),))[0], "yes")
        self.assertEqual(self.told(saying, (), (("a", 1),))[0], "open")
        self.assertEqual(self.told(read_saying("some now name c"), (), TABLE)[0], "no")

    def test_open_rows_are_the_shortest(self):
        told = self.told(read_saying("next next now name b"), (a,))
        self.assertIn(told[1], ((a, b), (b, b)))
        self.assertEqual(told[2], ())
        self.assertEqual(self.told(read_saying("some now name a"), (b,)), ("open", (a,), ()))
        self.assertEqual(self.told(read_saying("always now name a"), ()), ("open", (), (b,)))
        self.assertEqual(self.told(read_saying("always some now name a"), (a, b)), ("open", (a,), ()))
        told = self.told(read_saying("not next next next yes"), ())
        self.assertEqual((told[0], told[1], len(told[2])), ("open", (), 3))

    def test_against_rows_gone_through_one_by_one(self):
        counts = {"yes": 0, "no": 0, "open": 0}
        for saying in small_sayings(120):
            def fits(row):
                return plain_holds(saying, row, 0)
            for row in rows_up_to(TWO, 2):
                told = self.told(saying, row)
                self.assertEqual(told[0], plain_word(TWO, fits, row, 6), (saying, row))
                counts[told[0]] += 1
                if told[0] == "open":
                    lengths = [min(len(more) for more in rows_up_to(TWO, 6) if fits(row + more) == truth)
                               for truth in (True, False)]
                    self.assertEqual([len(told[1]), len(told[2])], lengths, (saying, row))
        self.assertGreater(min(counts.values()), 50, counts)

    def test_rows_of_sixty(self):
        saying = read_saying("each a x some both now name b now same x")
        row = (("a", 2), ("b", 1), ("a", 0)) * 20
        self.assertEqual(len(self.told(saying, row, TABLE)[1]), 2)

    def test_more_than_three_hundred_stands(self):
        self.assertEqual(ask(verdict, WIDE, ONE_MORE, ()), MANY)
        self.assertEqual(ask(verdict, WIDE, read_saying("each a x each b y some both now same x next now same y"), ()),
                         MANY)
        self.assertEqual(self.told(THREE_HUNDRED, (), TABLE)[0], "open")

    # It goes by the stands that are met by the saying gone on by the row, not by those that the saying meets.
    def test_few_stands_behind_the_row(self):
        saying = read_saying("both now name a each a x each b y some both now same x next now same y")
        self.assertEqual(ask(verdict, WIDE, saying, ()), MANY)
        self.assertEqual(ask(verdict, WIDE, saying, (a,)), MANY)
        self.assertEqual(ask(verdict, WIDE, saying, (b,)), ("no", ((),)))


class WordOfTest(unittest.TestCase):

    def test_words(self):
        self.assertEqual(ask(word_of, TWO, ()), "no")
        self.assertEqual(ask(word_of, TWO, ((),)), "yes")
        for text, word in (("some now name a", "open"), ("always now any", "yes"), ("some no", "no")):
            self.assertEqual(ask(word_of, TWO, laid(read_saying(text), True)), word)
        some, always = read_saying("some now name a"), read_saying("always now name b")
        self.assertEqual(ask(word_of, TWO, (((some, True),), ((always, True),))), "yes")
        self.assertEqual(ask(word_of, TWO, (((some, True), (always, True)),)), "no")
        self.assertEqual(ask(word_of, TWO, (((some, True), (some, False)),)), "no")
        self.assertEqual(ask(word_of, TWO, (((some, True), (some, False)), ())), "yes")

    def test_by_the_stands_that_are_met(self):
        for seed in range(300):
            stand = Maker(seed).stand(3, 2)
            wanted = word_by([ends(one) for one in plain_met(SMALL, stand)])
            self.assertEqual(ask(word_of, SMALL, stand), wanted, stand)

    def test_it_is_the_verdicts_word(self):
        for seed in range(200):
            maker = Maker(seed)
            saying, row = maker.saying(), maker.row(SMALL, 4)
            stand = gone_by(laid(saying, True), row)
            self.assertEqual(ask(word_of, SMALL, stand), verdict(SMALL, saying, row)[0])

    def test_more_than_three_hundred_stands(self):
        self.assertEqual(ask(word_of, WIDE, laid(ONE_MORE, True)), MANY)
        self.assertEqual(ask(word_of, TABLE, laid(THREE_HUNDRED, True)), "open")


class WordsTest(unittest.TestCase):

    def words_are(self, text, row, wanted):
        for handed in (read_row(TWO, row), list(read_row(TWO, row))):
            told = ask(words, TWO, read_saying(text), handed)
            self.assertIs(type(told), list)
            self.assertEqual(told, wanted.split())
            sure = ask(first_sure, TWO, read_saying(text), handed)
            places = [place for place, word in enumerate(told) if word != "open"]
            self.assertEqual(sure, (places[0], told[places[0]]) if places else None)

    def test_words(self):
        self.words_are("some now name a", "-", "open")
        self.words_are("some now name a", "b.0 a.0 b.0", "open open yes yes")
        self.words_are("always now name a", "a.0 a.0 b.0 a.0", "open open open no no")
        self.words_are("yes", "-", "yes")
        self.words_are("yes", "a.0", "yes yes")
        self.words_are("no", "a.0 b.0", "no no no")
        self.words_are("next next yes", "b.0 b.0", "open open yes")
        self.words_are("always some now name a", "a.0 b.0", "open open open")

    def test_first_sure(self):
        self.assertIsNone(ask(first_sure, TWO, read_saying("some now name a"), (b, b)))
        self.assertEqual(ask(first_sure, TWO, read_saying("some now name a"), (b, a, b)), (2, "yes"))
        self.assertEqual(ask(first_sure, TWO, read_saying("always now name a"), [b, a, b]), (1, "no"))
        self.assertEqual(ask(first_sure, TWO, ("yes",), (a,)), (0, "yes"))
        self.assertEqual(ask(first_sure, TWO, ("no",), ()), (0, "no"))

    def test_against_rows_gone_through_one_by_one(self):
        for saying in small_sayings(60):
            for row in rows_up_to(TWO, 3)[-4:]:
                wanted = [plain_word(TWO, lambda whole: plain_holds(saying, whole, 0), row[:place], 6)
                          for place in range(len(row) + 1)]
                self.assertEqual(ask(words, TWO, saying, row), wanted, (saying, row))

    def test_they_are_the_words_of_the_verdicts_and_stay(self):
        for seed in range(150):
            maker = Maker(seed)
            saying, row = maker.saying(), maker.row(SMALL, 6)
            told = ask(words, SMALL, saying, row)
            self.assertEqual(told, [verdict(SMALL, saying, row[:place])[0] for place in range(len(row) + 1)])
            sure = [place for place, word in enumerate(told) if word != "open"]
            self.assertEqual(sure, list(range(sure[0], len(told))) if sure else [])
            self.assertEqual(len(set(told) - {"open"}), 1 if sure else 0)

    # They go by the stands that the saying meets, whatever the row.
    def test_more_than_three_hundred_stands(self):
        saying = read_saying("both now name a each a x each b y some both now same x next now same y")
        for row in ((), (b,), (b, b)):
            self.assertEqual(ask(words, WIDE, saying, row), MANY)
            self.assertEqual(ask(first_sure, WIDE, saying, row), MANY)
        self.assertEqual(ask(words, WIDE, ONE_MORE, ()), MANY)
        self.assertEqual(ask(words, TABLE, THREE_HUNDRED, (a,)), ["open", "open"])

    def test_the_told_list_is_the_askers_own(self):
        saying = read_saying("some now name a")
        told = words(TWO, saying, (a,))
        told.clear()
        self.assertEqual(words(TWO, saying, (a,)), ["open", "yes"])
        stands = met(TWO, laid(saying, True))
        stands.clear()
        self.assertEqual(verdict(TWO, saying, (a,)), ("yes", (((),),)))
