import unittest

from surewatch.reading import read_row, read_saying, read_table
from surewatch.texts import shown, shown_row, shown_table
from tests.plain import TABLE, Maker

YES = ("yes",)
NO = ("no",)


class TextsTest(unittest.TestCase):

    def test_sayings(self):
        for saying, text in (
                (YES, "yes"), (NO, "no"), (("now", ("any",)), "now any"), (("now", ("name", "ab")), "now name ab"),
                (("now", ("less", 0)), "now less 0"), (("now", ("same", 9)), "now same 9"),
                (("now", ("more", 4)), "now more 4"), (("not", YES), "not yes"), (("both", YES, NO), "both yes no"),
                (("either", NO, YES), "either no yes"), (("next", NO), "next no"), (("till", YES, NO), "till yes no"),
                (("within", 0, NO), "within 0 no"), (("within", 5, NO), "within 5 no"), (("always", YES), "always yes"),
                (("some", NO), "some no"), (("each", "a", "x", ("now", ("same", "x"))), "each a x now same x"),
                (("one", "b", "y", ("now", ("less", "y"))), "one b y now less y"),
                (("till", ("both", YES, ("not", NO)), ("within", 3, ("next", YES))),
                 "till both yes not no within 3 next yes")):
            self.assertEqual(shown(saying), text)
            self.assertEqual(read_saying(text), saying)

    def test_rows(self):
        for row, text in (((), "-"), ((("a", 0),), "a.0"), ((("a", 2), ("b", 1), ("a", 2)), "a.2 b.1 a.2")):
            self.assertEqual(shown_row(row), text)
            self.assertEqual(shown_row(list(row)), text)
            self.assertEqual(read_row(TABLE, text), row)
            self.assertIs(type(read_row(TABLE, text)), tuple)

    def test_tables(self):
        for table, text in (((("a", 0),), "a.0"), ((("b", 5), ("a", 5)), "b.5 a.5"),
                            ((("abcdefgh", 2), ("b", 2), ("c", 2), ("d", 2)), "abcdefgh.2 b.2 c.2 d.2")):
            self.assertEqual(shown_table(table), text)
            self.assertEqual(read_table(text), table)

    def test_lists_that_are_handed_in_stay_as_they_were(self):
        row = [("a", 2), ("b", 1)]
        shown_row(row)
        self.assertEqual(row, [("a", 2), ("b", 1)])

    def test_what_is_written_is_read(self):
        for seed in range(500):
            maker = Maker(seed)
            saying, row = maker.saying(16), maker.row(TABLE, 60)
            self.assertEqual(read_saying(shown(saying)), saying)
            self.assertEqual(read_row(TABLE, shown_row(row)), row)
