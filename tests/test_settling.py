import unittest

from surewatch.errors import NoPaper, NoRing, TooMany
from surewatch.reading import read_saying
from surewatch.ringchecker import lets_settling
from surewatch.settling import settled_by
from surewatch.stands import is_stand
from surewatch.tables import is_row
from surewatch.verdicts import words
from tests.plain import (ONE_MORE, SMALL, TABLE, THREE_HUNDRED, TWO, WIDE, Maker, ask, bent, is_trimmed, plain_holds,
                         plain_word, rows_up_to)

MANY = (TooMany, {"word": "stands"})


class SettledByTest(unittest.TestCase):

    def told(self, saying, table=TWO):
        told = ask(settled_by, table, saying)
        self.assertEqual((type(told), len(told)), (tuple, 3))
        self.assertIs(ask(lets_settling, table, saying, told), True, saying)
        if told[0] == "settled":
            self.assertIs(type(told[1]), tuple)
            self.assertIs(is_row(table, told[1]), True)
            self.assertNotEqual(words(table, saying, told[1])[-1], "open")
            return told
        self.assertEqual(told[0], "never")
        for entries in told[1:]:
            self.assertIs(type(entries), tuple)
            for stand, row in entries:
                self.assertTrue(is_stand(stand) and is_trimmed(stand) and is_row(table, row))
        return told

    def test_settled(self):
        for text, length, word in (
                ("yes", 0, "yes"), ("no", 0, "no"), ("always now any", 0, "yes"), ("some no", 0, "no"),
                ("some now name a", 1, "yes"), ("always now name a", 1, "no"), ("now any", 1, "yes"),
                ("next next next yes", 3, "yes"), ("not next next yes", 2, "no"), ("each a x now same 0", 0, "yes"),
                ("next next both now name a always some now name b", 3, "no"), ("next now name a", 2, None),
                ("some both now name a next next now name b", 3, "yes")):
            told = self.told(read_saying(text))
            self.assertEqual((told[0], len(told[1])), ("settled", length), text)
            if word is not None:
                self.assertEqual(told[2][0], word, text)

    def test_never(self):
        for text in ("always some now name a", "some always now name a", "some both now name a not next now any",
                     "always either now name a next now any", "next always some now name b"):
            self.assertEqual(self.told(read_saying(text))[0], "never", text)

    def test_the_table_counts(self):
        saying = read_saying("always some now less 1")
        self.assertEqual(self.told(saying, (("a", 0),))[:2], ("settled", ()))
        self.assertEqual(self.told(saying, (("a", 1),))[0], "never")
        self.assertEqual(self.told(read_saying("some now name c"), TABLE)[2][0], "no")

    def test_against_rows_gone_through_one_by_one(self):
        counts = {}
        for seed in range(150):
            maker = Maker(seed)
            saying = maker.saying(5)
            saying = maker.pick((saying, saying, ("always", ("some", saying)), ("some", ("always", saying))))
            told = self.told(saying)
            settling = [row for row in rows_up_to(TWO, 3)
                        if plain_word(TWO, lambda whole: plain_holds(saying, whole, 0), row, 5) != "open"]
            if told[0] == "settled" and len(told[1]) <= 3:
                self.assertEqual(len(told[1]), len(settling[0]), saying)
                self.assertIn(told[1], settling)
                word = plain_word(TWO, lambda whole: plain_holds(saying, whole, 0), told[1], 5)
                self.assertEqual(told[2][0], word)
            else:
                self.assertEqual(settling, [], saying)
            key = (told[0], told[2][0] if told[0] == "settled" else "")
            counts[key] = counts.get(key, 0) + 1
        self.assertEqual(len(counts), 3)
        self.assertGreater(min(counts.values()), 5, counts)

    def test_wider_tables(self):
        for seed in range(200):
            for table in (SMALL, TABLE, (("b", 1), ("c", 0), ("a", 1))):
                self.told(Maker(seed).saying(), table)

    def test_bent_in_one_place_it_is_refused(self):
        saying = read_saying("always some now name a")
        told = self.told(saying)
        for at in (1, 2):
            for number, (stand, row) in enumerate(told[at]):
                other = () if row else (("b", 0),) if at == 1 else (("a", 0),)
                with self.assertRaises(NoRing):
                    lets_settling(TWO, saying, bent(told, (at, number, 1), other))
            with self.assertRaises(NoRing):
                lets_settling(TWO, saying, bent(told, (at,), ()))
        saying = read_saying("some now name a")
        told = self.told(saying)
        for path, other in (((1,), ()), ((2, 0), "no"), ((2, 1), ()), ((2, 1), ((),)), ((2,), ("yes",))):
            with self.assertRaises(NoPaper):
                lets_settling(TWO, saying, bent(told, path, other))
        with self.assertRaises(NoRing):
            lets_settling(TWO, saying, bent(told, (2, 0), "open"))

    # It goes by the stands that the saying meets, though a short row may lead it to few.
    def test_more_than_three_hundred_stands(self):
        self.assertEqual(ask(settled_by, WIDE, ONE_MORE), MANY)
        saying = read_saying("both now name a each a x each b y some both now same x next now same y")
        self.assertEqual(ask(settled_by, WIDE, saying), MANY)
        self.told(THREE_HUNDRED, TABLE)
