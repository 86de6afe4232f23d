import copy
import unittest

from surewatch.tables import happenings_of, is_happening, is_row, is_table, is_test, passes
from tests.plain import STRANGE, TABLE


class TableTest(unittest.TestCase):

    def test_tables(self):
        for table in ((("a", 0),), (("abcdefgh", 5),), (("b", 1), ("a", 2)), (("a", 5), ("b", 5)),
                      (("a", 2), ("b", 2), ("c", 2), ("d", 2)), (("a", 5), ("b", 3), ("c", 0), ("d", 0))):
            self.assertIs(is_table(table), True, table)

    def test_one_to_four_names(self):
        self.assertIs(is_table(()), False)
        self.assertIs(is_table((("a", 0), ("b", 0), ("c", 0), ("d", 0))), True)
        self.assertIs(is_table((("a", 0), ("b", 0), ("c", 0), ("d", 0), ("e", 0))), False)

    def test_at_most_twelve_happenings(self):
        self.assertIs(is_table((("a", 5), ("b", 4), ("c", 0))), True)
        self.assertIs(is_table((("a", 5), ("b", 5), ("c", 0))), False)
        self.assertIs(is_table((("a", 5), ("b", 4), ("c", 1))), False)

    def test_most_from_zero_to_five(self):
        for most in (-1, 6, 10 ** 19):
            self.assertIs(is_table((("a", most),)), False, most)

    def test_names_are_unlike(self):
        self.assertIs(is_table((("a", 0), ("a", 1))), False)
        self.assertIs(is_table((("a", 0), ("b", 1), ("a", 0))), False)

    def test_wrong_names(self):
        for name in ("", "abcdefghi", "A", "a1", None, 1, ("a",), ["a"]):
            self.assertIs(is_table(((name, 1),)), False, repr(name))

    def test_kinds_are_as_told(self):
        for thing in ([("a", 1)], (["a", 1],), (("a", True),), (("a", False),), (("a", "1"),), (("a", None),),
                      (("a",),), (("a", 1, 1),), (("a", (1,)),), ("a", 1), ("a1",), ((),), (("a", 1), None)):
            self.assertIs(is_table(thing), False, repr(thing))

    def test_strange_things_are_no_table(self):
        for thing in STRANGE:
            self.assertIs(is_table(thing), False, repr(thing))
            self.assertIs(is_table((thing,)), thing == ("a", 1), repr(thing))


class HappeningTest(unittest.TestCase):

    def test_happenings_go_by_the_order_of_names_then_by_number(self):
        self.assertEqual(happenings_of((("b", 1), ("a", 2))), [("b", 0), ("b", 1), ("a", 0), ("a", 1), ("a", 2)])
        self.assertEqual(happenings_of((("c", 0),)), [("c", 0)])

    def test_the_told_list_is_the_askers_own(self):
        told = happenings_of(TABLE)
        self.assertIs(type(told), list)
        told.clear()
        self.assertEqual(len(happenings_of(TABLE)), 6)

    def test_happenings_of_a_table(self):
        for happening in happenings_of(TABLE):
            self.assertIs(is_happening(TABLE, happening), True, happening)

    def test_number_stays_within_that_names_most(self):
        table = (("a", 0), ("b", 5))
        self.assertIs(is_happening(table, ("a", 0)), True)
        self.assertIs(is_happening(table, ("a", 1)), False)
        self.assertIs(is_happening(table, ("b", 5)), True)
        self.assertIs(is_happening(table, ("b", 6)), False)
        self.assertIs(is_happening(table, ("b", -1)), False)

    def test_no_happenings(self):
        for thing in (("c", 0), ("", 0), ("a", True), ("a", False), ("a", None), ("a", "1"), ["a", 1], ("a",),
                      ("a", 1, 1), (1, "a"), (["a"], 1), (("a",), 1), ("a", (1,)), (None, 1)):
            self.assertIs(is_happening(TABLE, thing), False, repr(thing))

    def test_strange_things_are_no_happening(self):
        for thing in STRANGE:
            self.assertIs(is_happening(TABLE, thing), thing == ("a", 1), repr(thing))


class RowTest(unittest.TestCase):

    def test_rows_are_tuples_or_lists_of_happenings(self):
        for row in ((), [], (("a", 0),), [("a", 0)], (("a", 2), ("b", 0), ("a", 2)), [("b", 2)] * 2000):
            self.assertIs(is_row(TABLE, row), True)

    def test_no_rows(self):
        for thing in ((("a", 3),), [("a", 0), ("c", 0)], (["a", 0],), [["a", 0]], ("a", 0), (("a", True),), ((),),
                      [("b", 2)] * 2000 + [None], "ab", "", None, 0, True):
            self.assertIs(is_row(TABLE, thing), False)

    def test_strange_things_within_rows(self):
        for thing in STRANGE:
            self.assertIs(is_row(TABLE, (("a", 0), thing)), thing == ("a", 1), repr(thing))
            self.assertIs(is_row(TABLE, thing), thing == () or thing == [], repr(thing))

    def test_what_is_handed_in_stays(self):
        row = [("a", 0), ["a", 1], None]
        before = copy.deepcopy(row)
        is_row(TABLE, row)
        self.assertEqual(row, before)


class TestTest(unittest.TestCase):

    def test_tests(self):
        for test in (("any",), ("name", "a"), ("name", "abcdefgh"), ("name", "any")):
            self.assertIs(is_test(test), True, test)
        for head in ("less", "same", "more"):
            for number in range(10):
                self.assertIs(is_test((head, number)), True)

    def test_numbers_from_zero_to_nine(self):
        for head in ("less", "same", "more"):
            for number in (-1, 10, 10 ** 19, True, False, None, "1", (1,), [1], ()):
                self.assertIs(is_test((head, number)), False, repr((head, number)))

    def test_variables_are_not_let_by(self):
        for head in ("less", "same", "more"):
            self.assertIs(is_test((head, "x")), False)

    def test_no_tests(self):
        for thing in (("any", 1), ("any", "any"), ("any", ()), ["any"], ("name",), ("name", ""), ("name", "abcdefghi"),
                      ("name", 1), ("name", None), ("name", "a", "a"), ["name", "a"], ("less",), ("less", 1, 1),
                      ["less", 1], ("least", 1), ("Less", 1), (["less"], 1), (None, 1), (True, 1), ("", 1), "any",
                      ("now", ("any",)), (("any",),), ("same", ("any",))):
            self.assertIs(is_test(thing), False, repr(thing))

    def test_strange_things_are_no_test(self):
        for thing in STRANGE:
            self.assertIs(is_test(thing), False, repr(thing))

    def test_any_always_passes(self):
        self.assertIs(passes(("any",), ("a", 0)), True)
        self.assertIs(passes(("any",), ("zzz", 9)), True)

    def test_name_passes_just_this_name(self):
        self.assertIs(passes(("name", "ab"), ("ab", 3)), True)
        self.assertIs(passes(("name", "ab"), ("a", 3)), False)
        self.assertIs(passes(("name", "a"), ("ab", 3)), False)

    def test_numbers_are_compared(self):
        for number in range(10):
            for k in range(10):
                self.assertIs(passes(("less", number), ("a", k)), k < number)
                self.assertIs(passes(("same", number), ("b", k)), k == number)
                self.assertIs(passes(("more", number), ("c", k)), k > number)
