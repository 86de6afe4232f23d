import unittest

from surewatch.meaning import fits, holds
from tests.plain import TABLE, Maker, plain_holds

YES = ("yes",)
NO = ("no",)
ANY = ("now", ("any",))
A = ("now", ("name", "a"))
B = ("now", ("name", "b"))


def same(number):
    return ("now", ("same", number))


def row_of(text):
    return tuple((word[0], int(word[1])) for word in text.split())


class MeaningTest(unittest.TestCase):

    # Places as a text: a sign for each place of the row, the end too.
    def places(self, saying, row, wanted):
        told = [holds(saying, row_of(row), place) for place in range(len(row_of(row)) + 1)]
        self.assertEqual(told, [sign == "+" for sign in wanted], (saying, row))
        self.assertIs(fits(saying, row_of(row)), wanted[0] == "+")

    def test_yes_and_no(self):
        self.places(YES, "a0 b1", "+++")
        self.places(NO, "a0 b1", "---")

    def test_now(self):
        self.places(ANY, "a0 b1", "++-")
        self.places(A, "a0 b1 a2", "+-+-")
        self.places(same(1), "a0 b1 a2", "-+--")
        self.places(("now", ("less", 1)), "a0 b1 a2", "+---")
        self.places(("now", ("more", 1)), "a0 b1 a2", "--+-")

    def test_not(self):
        self.places(("not", A), "a0 b1", "-++")

    def test_both_and_either(self):
        self.places(("both", A, same(1)), "a0 b1 a1 b2", "--+--")
        self.places(("either", A, same(1)), "a0 b1 a1 b2", "+++--")

    def test_next(self):
        self.places(("next", A), "b0 a0 b0", "+---")
        self.places(("next", YES), "b0 a0", "++-")
        self.places(("next", ("always", NO)), "b0 a0", "-+-")
        self.places(("not", ("next", YES)), "b0 a0", "--+")

    def test_till(self):
        self.places(("till", A, B), "a0 a0 b0 a0", "+++--")
        self.places(("till", NO, B), "a0 b0", "-+-")
        self.places(("till", A, same(1)), "a0 b0 a1", "--+-")
        self.places(("till", YES, YES), "a0", "+-")
        self.places(("till", same(0), ("next", B)), "a0 a0 b1", "++--")

    def test_within(self):
        self.places(("within", 0, ANY), "a0 b0", "---")
        self.places(("within", 1, B), "a0 b0", "-+-")
        self.places(("within", 2, B), "a0 a0 b0 a0", "-++--")
        self.places(("within", 5, B), "a0 a0 a0 a0 a0 b0", "-+++++-")
        self.places(("within", 5, YES), "a0", "+-")

    def test_always_and_some(self):
        self.places(("always", A), "a0 b0 a0 a1", "--+++")
        self.places(("some", B), "a0 b0 a0", "++--")
        self.places(("always", ("next", YES)), "a0 a0", "+++")
        self.places(("some", ("not", ANY)), "a0 a0", "---")

    def test_each_and_one(self):
        part = ("next", ("some", same("x")))
        self.places(("each", "a", "x", part), "a0 a1 b1 a0 b0", "+++++" + "+")
        self.places(("each", "a", "x", part), "a0 a1 b1 a2 b0", "----++")
        self.places(("one", "a", "x", part), "a0 a1 b1 a2 b0", "++----")
        self.places(("each", "c", "x", NO), "a0 b0", "+++")
        self.places(("one", "c", "x", YES), "a0 b0", "---")

    def test_each_and_one_ask_at_the_happenings_own_place(self):
        self.places(("each", "b", "x", same("x")), "a0 b1 b2", "++++")
        self.places(("one", "b", "x", ("now", ("less", "x"))), "a0 b1 b2", "----")

    def test_the_innermost_binding_is_meant(self):
        shaded = ("each", "a", "x", ("each", "b", "x", same("x")))
        self.places(shaded, "a0 b1 b2", "++++")
        other = ("each", "a", "x", ("each", "b", "y", same("x")))
        self.places(other, "a0 b1 b2", "-+++")
        beside = ("one", "a", "x", ("next", ("both", same("x"), ("one", "b", "x", same("x")))))
        self.places(beside, "a1 b1", "+--")
        self.places(beside, "a1 b2", "---")

    def test_at_the_end(self):
        for saying in (("always", NO), ("each", "a", "x", NO), YES, ("not", ANY)):
            self.places(saying, "", "+")
        for saying in (ANY, ("next", YES), ("till", YES, YES), ("within", 5, YES), ("some", YES),
                       ("one", "a", "x", YES), NO, ("not", ("always", NO))):
            self.places(saying, "", "-")

    def test_numbers_to_nine_and_any_names(self):
        self.places(("each", "longname", "x", ("now", ("more", 8))), "", "+")
        row = (("longname", 9), ("other", 0))
        self.assertIs(fits(("each", "longname", "x", same("x")), row), True)
        self.assertIs(fits(("one", "longname", "x", ("now", ("less", 9))), row), False)

    def test_lists_do_as_rows_and_stay_as_they_were(self):
        row = [("a", 0), ("b", 1)]
        self.assertIs(fits(("some", B), row), True)
        self.assertIs(holds(("some", A), row, 1), False)
        self.assertEqual(row, [("a", 0), ("b", 1)])

    def test_against_the_plain_meaning(self):
        for seed in range(1500):
            maker = Maker(seed)
            saying, row = maker.saying(), maker.row(TABLE, 5)
            for place in range(len(row) + 1):
                self.assertIs(holds(saying, row, place), plain_holds(saying, row, place), (saying, row, place))
            self.assertIs(fits(saying, row), plain_holds(saying, row, 0))

    def test_rows_of_sixty(self):
        row = (("a", 0), ("b", 1), ("a", 2)) * 20
        deep = ANY
        for head in ("always", "some") * 3:
            deep = (head, deep)
        self.assertIs(fits(deep, row), True)
        self.assertIs(fits(("always", deep), row), True)
        self.assertIs(holds(("some", B), row, 58), True)
        self.assertIs(holds(("some", B), row, 59), False)
        self.assertIs(holds(("some", B), row, 60), False)
        bound = ("each", "a", "x", ("each", "b", "y", ("each", "a", "z", ("some", ("now", ("less", 9))))))
        self.assertIs(fits(bound, row), True)
        again = ("within", 5, ("both", A, same("x")))
        self.assertIs(fits(("each", "a", "x", again), row), True)
        self.assertIs(fits(("each", "a", "x", ("next", again)), row), False)
