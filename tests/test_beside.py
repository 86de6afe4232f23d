import unittest

from surewatch.beside import compared
from surewatch.besidechecker import lets_beside, pairs_show
from surewatch.errors import NoBeside, TooMany
from surewatch.reading import read_row, read_saying
from surewatch.stands import is_stand
from surewatch.tables import is_row
from tests.plain import (ONE_MORE, SMALL, TABLE, THREE_HUNDRED, TWO, WIDE, Maker, ask, is_trimmed, plain_holds,
                         rows_up_to)

TURNED = {"alike": "alike", "within": "around", "around": "within", "parted": "parted"}


class ComparedTest(unittest.TestCase):

    def told(self, one, other, table=TWO):
        told = ask(compared, table, one, other)
        self.assertEqual((type(told), len(told)), (tuple, 3))
        self.assertIs(ask(lets_beside, table, one, other, told), True, (one, other))
        for part in told[1:]:
            self.assertIs(type(part), tuple)
        pairs = {"alike": told[1:], "within": told[1:2], "around": told[1:2], "parted": ()}[told[0]]
        for pair in [pair for several in pairs for pair in several]:
            self.assertEqual((type(pair), len(pair)), (tuple, 2))
            self.assertTrue(all(is_stand(stand) and is_trimmed(stand) for stand in pair))
        for row in told[3 - {"alike": 0, "within": 1, "around": 1, "parted": 2}[told[0]]:]:
            self.assertIs(is_row(table, row), True)
        return told

    def test_words(self):
        for one, other, word in (
                ("yes", "yes", "alike"), ("no", "no", "alike"), ("some now name a", "till yes now name a", "alike"),
                ("not some now name a", "always not now name a", "alike"), ("yes", "always now any", "alike"),
                ("no", "some no", "alike"), ("within 0 yes", "no", "alike"), ("within 1 now any", "now any", "alike"),
                ("no", "yes", "within"), ("now name a", "some now name a", "within"),
                ("both now name a now any", "now any", "within"), ("yes", "no", "around"),
                ("within 3 now name a", "within 2 now name a", "around"), ("yes", "now any", "around"),
                ("now name a", "now name b", "parted"), ("some now name a", "always now name a", "parted"),
                ("yes", "yes", "alike"), ("next yes", "not next yes", "parted")):
            self.assertEqual(self.told(read_saying(one), read_saying(other))[0], word, (one, other))
            self.assertEqual(self.told(read_saying(other), read_saying(one))[0], TURNED[word], (one, other))

    # By one table two sayings are alike that are not by another one.
    def test_the_table_counts(self):
        one, other = read_saying("now less 1"), read_saying("now any")
        self.assertEqual(self.told(one, other, (("a", 0),))[0], "alike")
        self.assertEqual(self.told(one, other, (("a", 1),)), ("within",) + self.told(one, other, (("a", 1),))[1:])
        self.assertEqual(self.told(read_saying("some now name c"), read_saying("no"), TABLE)[0], "alike")

    def test_rows(self):
        for one, other, word, rows in (
                ("now name a", "some now name a", "within", ("b.0 a.0",)), ("no", "yes", "within", ("-",)),
                ("yes", "now any", "around", ("-",)), ("now name a", "now name b", "parted", ("a.0", "b.0")),
                ("some now name a", "always now name a", "parted", (None, "-")),
                ("next next next yes", "no", "around", (None,)),
                ("always now name a", "some now name a", "parted", ("-", None))):
            told = self.told(read_saying(one), read_saying(other))
            self.assertEqual(told[0], word)
            for row, wanted in zip(told[3 - len(rows):], rows):
                if wanted is not None:
                    self.assertEqual(row, read_row(TWO, wanted))
        told = self.told(read_saying("next next next yes"), read_saying("no"))
        self.assertEqual(len(told[2]), 3)

    def test_against_rows_gone_through_one_by_one(self):
        counts = {}
        for seed in range(500):
            maker = Maker(seed)
            one, other = maker.saying(5), maker.saying(5)
            other = maker.pick(4 * (other,) + (("either", one, other), ("both", other, one), ("not", ("not", one))))
            told = self.told(one, other)
            truths = [(plain_holds(one, row, 0), plain_holds(other, row, 0), row) for row in rows_up_to(TWO, 5)]
            ones = [row for first, second, row in truths if first and not second]
            others = [row for first, second, row in truths if second and not first]
            wanted = {(False, False): "alike", (False, True): "within", (True, False): "around",
                      (True, True): "parted"}[(bool(ones), bool(others))]
            self.assertEqual(told[0], wanted, (one, other))
            rows = {"alike": (), "within": (others,), "around": (ones,), "parted": (ones, others)}[wanted]
            for row, several in zip(told[3 - len(rows):], rows):
                self.assertEqual(len(row), len(several[0]), (one, other))
                self.assertIn(row, several)
            counts[wanted] = counts.get(wanted, 0) + 1
        self.assertGreater(min(counts.values()), 10, counts)
        self.assertEqual(len(counts), 4)

    def test_wider_tables(self):
        for seed in range(120):
            maker = Maker(seed)
            one, other = maker.saying(), maker.saying()
            for table in (SMALL, TABLE, (("b", 1), ("c", 0), ("a", 1))):
                word = self.told(one, other, table)[0]
                self.assertEqual(self.told(other, one, table)[0], TURNED[word])
                self.assertEqual(self.told(one, one, table)[0], "alike")

    def test_bent_in_one_place_it_is_refused(self):
        a, b = ("a", 0), ("b", 0)
        for one, other, bends in (
                ("some now name a", "till yes now name a", ((1, ()), (2, ()), (0, "within"), (0, "parted"))),
                ("now name a", "some now name a", ((1, ()), (2, ()), (2, (a,)), (2, (b,)), (0, "alike"))),
                ("some now name a", "now name a", ((1, ()), (2, ()), (2, (a,)), (2, (b,)), (0, "within"))),
                ("now name a", "now name b", ((1, ()), (2, ()), (1, (b,)), (2, (a,)), (0, "around")))):
            one, other = read_saying(one), read_saying(other)
            told = self.told(one, other)
            bends += ((1, told[1][1:]),)
            for at, part in bends:
                with self.assertRaises(NoBeside, msg=(told, at, part)):
                    lets_beside(TWO, one, other, told[:at] + (part,) + told[at + 1:])

    def test_there_and_back_show_it(self):
        one, other = read_saying("some now name a"), read_saying("not always not now name a")
        told = self.told(one, other)
        self.assertIs(ask(pairs_show, TWO, one, other, told[1]), True)
        self.assertIs(ask(pairs_show, TWO, other, one, told[2]), True)

    def test_more_than_three_hundred_stands(self):
        many = (TooMany, {"word": "stands"})
        for other in (("yes",), ("no",), ONE_MORE):
            self.assertEqual(ask(compared, WIDE, ONE_MORE, other), many)
            self.assertEqual(ask(compared, WIDE, other, ONE_MORE), many)
        self.assertEqual(self.told(THREE_HUNDRED, THREE_HUNDRED, TABLE)[0], "alike")
        self.assertEqual(self.told(THREE_HUNDRED, ("yes",), TABLE)[0], "within")
        self.assertEqual(self.told(THREE_HUNDRED, ("no",), TABLE)[0], "around")
