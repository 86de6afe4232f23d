import copy
import unittest

from surewatch.sayings import depth, is_basic, is_saying, names_in, open_in, put_for, size
from tests.plain import STRANGE, Maker

YES = ("yes",)
ANY = ("now", ("any",))
OF_EACH_HEAD = (
    YES, ("no",), ANY, ("not", YES), ("both", YES, ANY), ("either", YES, ANY), ("next", YES), ("till", YES, ANY),
    ("within", 3, YES), ("always", YES), ("some", YES), ("each", "a", "x", YES), ("one", "a", "x", YES),
)


def nots(count, saying):
    for _ in range(count):
        saying = ("not", saying)
    return saying


def tall(head, count):
    saying = YES
    for _ in range(count):
        saying = (head, "a", "x", saying)
    return saying


# A saying with count sayings in it, none deep within others.
def wide(count):
    if count == 1:
        return YES
    if count == 2:
        return ("not", YES)
    return ("both", wide((count - 1) // 2), wide(count - 1 - (count - 1) // 2))


class WholeSayingTest(unittest.TestCase):

    def test_each_head(self):
        for saying in OF_EACH_HEAD:
            self.assertIs(is_saying(saying), True, saying)

    def test_lists_in_the_place_of_tuples(self):
        for saying in OF_EACH_HEAD:
            self.assertIs(is_saying(list(saying)), False, saying)
            self.assertIs(is_saying(("not", list(saying))), False, saying)
        self.assertIs(is_saying(("now", ["any"])), False)

    def test_things_too_many_or_too_few(self):
        for saying in OF_EACH_HEAD:
            for more in (YES, None, "a", ()):
                self.assertIs(is_saying(saying + (more,)), False, saying)
            self.assertIs(is_saying(saying[:-1]), False, saying)

    def test_strange_things(self):
        for thing in STRANGE:
            self.assertIs(is_saying(thing), thing == YES, repr(thing))
            self.assertIs(is_saying(("not", thing)), thing == YES, repr(thing))
            self.assertIs(is_saying(("till", YES, thing)), thing == YES, repr(thing))
            self.assertIs(is_saying((thing, YES)), False, repr(thing))
            self.assertIs(is_saying(("now", thing)), False, repr(thing))

    def test_other_heads(self):
        for head in ("Yes", "", "any", "maybe", "all", "never", "yes "):
            for parts in ((), (YES,), (YES, YES), (1, YES), ("a", "x", YES)):
                self.assertIs(is_saying((head,) + parts), False, head)

    def test_within_from_zero_to_five(self):
        for n in range(6):
            self.assertIs(is_saying(("within", n, YES)), True)
        for n in (-1, 6, 10 ** 19, True, False, None, "3", (3,), "x"):
            self.assertIs(is_saying(("within", n, YES)), False, repr(n))

    def test_numbers_of_tests(self):
        for number in (0, 9):
            self.assertIs(is_saying(("now", ("same", number))), True)
        for number in (-1, 10, True, False, None, (1,), "1"):
            self.assertIs(is_saying(("now", ("same", number))), False, repr(number))

    def test_names_of_eaches_and_ones(self):
        for head in ("each", "one"):
            for name in ("a", "abcdefgh", "each"):
                self.assertIs(is_saying((head, name, "x", YES)), True)
                self.assertIs(is_saying((head, "a", name, YES)), True)
            for name in ("", "abcdefghi", "A", "a1", None, 1, True, ("a",)):
                self.assertIs(is_saying((head, name, "x", YES)), False, repr(name))
                self.assertIs(is_saying((head, "a", name, YES)), False, repr(name))

    def test_variables_have_to_be_bound(self):
        for test in ("less", "same", "more"):
            part = ("now", (test, "x"))
            self.assertIs(is_saying(part), False)
            self.assertIs(is_saying(("each", "a", "y", part)), False)
            self.assertIs(is_saying(("both", ("each", "a", "x", YES), part)), False)
            self.assertIs(is_saying(("both", part, ("each", "a", "x", YES))), False)
            self.assertIs(is_saying(("each", "a", "x", part)), True)
            self.assertIs(is_saying(("one", "a", "x", ("not", part))), True)
            self.assertIs(is_saying(("one", "a", "x", ("each", "b", "y", part))), True)
            self.assertIs(is_saying(("one", "a", "x", ("each", "b", "x", part))), True)

    def test_a_name_test_binds_and_wants_no_variable(self):
        self.assertIs(is_saying(("now", ("name", "x"))), True)
        self.assertIs(is_saying(("each", "x", "y", ("now", ("same", "x")))), False)

    def test_a_variable_stands_for_a_tests_number_alone(self):
        self.assertIs(is_saying(("each", "a", "x", ("within", "x", YES))), False)

    def test_sixteen_sayings_and_seventeen(self):
        self.assertEqual((size(wide(16)), size(wide(17))), (16, 17))
        self.assertIs(is_saying(wide(16)), True)
        self.assertIs(is_saying(wide(17)), False)

    def test_eight_within_one_another_and_nine(self):
        self.assertIs(is_saying(nots(7, YES)), True)
        self.assertIs(is_saying(nots(8, YES)), False)
        self.assertIs(is_saying(("both", YES, nots(6, YES))), True)
        self.assertIs(is_saying(("both", YES, nots(7, YES))), False)
        self.assertIs(is_saying(nots(38, YES)), False)

    def test_three_each_and_one_and_four(self):
        for head in ("each", "one"):
            self.assertIs(is_saying(tall(head, 3)), True)
            self.assertIs(is_saying(tall(head, 4)), False)
            self.assertIs(is_saying(("both", tall("each", 2), tall(head, 1))), True)
            self.assertIs(is_saying(("both", tall("each", 2), tall(head, 2))), False)

    def test_made_sayings(self):
        for seed in range(300):
            self.assertIs(is_saying(Maker(seed).saying(16)), True, seed)

    def test_what_is_handed_in_stays(self):
        thing = ["not", ["both", ("yes",), [None, {}]]]
        before = copy.deepcopy(thing)
        is_saying(thing)
        is_basic(thing)
        self.assertEqual(thing, before)


class BasicTest(unittest.TestCase):

    def test_heads_of_basics(self):
        heads = ("now", "next", "till", "within", "always", "some", "each", "one")
        for saying in OF_EACH_HEAD:
            self.assertIs(is_basic(saying), saying[0] in heads, saying)

    def test_a_basic_is_a_whole_saying(self):
        for thing in (("now", ("same", "x")), ("some", nots(7, YES)), ("always", wide(16)), tall("each", 4),
                      ["some", YES], ("some",), ("some", ["yes"]), ("within", True, YES)):
            self.assertIs(is_basic(thing), False, repr(thing))
        for saying in (("some", nots(6, YES)), ("always", wide(15)), tall("one", 3)):
            self.assertIs(is_basic(saying), True, saying)

    def test_strange_things(self):
        for thing in STRANGE:
            self.assertIs(is_basic(thing), False, repr(thing))


class CountTest(unittest.TestCase):

    def test_size(self):
        self.assertEqual([size(saying) for saying in OF_EACH_HEAD], [1, 1, 1, 2, 3, 3, 2, 3, 2, 2, 2, 2, 2])
        self.assertEqual(size(("till", ("both", YES, ANY), ("next", ("now", ("same", "x"))))), 6)
        self.assertEqual(size(nots(19, YES)), 20)

    def test_depth(self):
        self.assertEqual([depth(saying) for saying in OF_EACH_HEAD], [1, 1, 1] + [2] * 10)
        self.assertEqual(depth(("both", nots(3, YES), nots(1, YES))), 5)
        self.assertEqual(depth(("till", nots(1, YES), nots(3, ("now", ("same", "x"))))), 5)
        self.assertEqual(depth(("each", "a", "x", ("within", 3, nots(2, ANY)))), 5)


class NamesTest(unittest.TestCase):

    def test_names_of_name_tests_eaches_and_ones(self):
        saying = ("both", ("now", ("name", "d")), ("each", "c", "x", ("one", "a", "y", ("now", ("name", "b")))))
        self.assertEqual(names_in(saying), ["a", "b", "c", "d"])

    def test_each_name_once(self):
        saying = ("both", ("now", ("name", "b")), ("each", "b", "x", ("one", "a", "y", ("now", ("name", "b")))))
        self.assertEqual(names_in(saying), ["a", "b"])

    def test_variables_are_no_names(self):
        self.assertEqual(names_in(("now", ("same", "x"))), [])
        self.assertEqual(names_in(("each", "a", "x", ("now", ("less", "x")))), ["a"])

    def test_none(self):
        self.assertEqual(names_in(("till", YES, ("within", 2, ANY))), [])

    def test_the_told_list_is_the_askers_own(self):
        saying = ("now", ("name", "b"))
        told = names_in(saying)
        self.assertIs(type(told), list)
        told.append("c")
        self.assertEqual(names_in(saying), ["b"])


class OpenTest(unittest.TestCase):

    def test_variables_that_none_binds(self):
        saying = ("till", ("now", ("more", "y")), ("next", ("either", ("now", ("same", "b")), ("now", ("less", "a")))))
        self.assertEqual(open_in(saying), ["a", "b", "y"])

    def test_each_once(self):
        self.assertEqual(open_in(("both", ("now", ("same", "x")), ("now", ("less", "x")))), ["x"])

    def test_bound_ones_are_left_out(self):
        for head in ("each", "one"):
            part = ("both", ("now", ("same", "x")), ("now", ("less", "y")))
            self.assertEqual(open_in((head, "a", "x", part)), ["y"])
            self.assertEqual(open_in((head, "a", "x", (head, "a", "x", part))), ["y"])
            self.assertEqual(open_in((head, "a", "x", (head, "b", "y", part))), [])

    def test_open_beside_where_it_is_bound(self):
        bound = ("each", "a", "x", ("now", ("same", "x")))
        self.assertEqual(open_in(bound), [])
        self.assertEqual(open_in(("both", bound, ("now", ("same", "x")))), ["x"])
        self.assertEqual(open_in(("both", ("now", ("same", "x")), bound)), ["x"])

    def test_names_are_no_variables(self):
        self.assertEqual(open_in(("each", "b", "x", ("now", ("name", "a")))), [])

    def test_whole_sayings_have_none(self):
        for seed in range(100):
            self.assertEqual(open_in(Maker(seed).saying()), [])

    def test_the_told_list_is_the_askers_own(self):
        saying = ("now", ("same", "x"))
        told = open_in(saying)
        self.assertIs(type(told), list)
        told.append("c")
        self.assertEqual(open_in(saying), ["x"])


class PutTest(unittest.TestCase):

    def test_put_in_each_test_where_it_is_meant(self):
        for head in ("less", "same", "more"):
            self.assertEqual(put_for(("now", (head, "x")), "x", 3), ("now", (head, 3)))
        part = ("now", ("same", "x"))
        done = ("now", ("same", 0))
        for around in (("not",), ("next",), ("always",), ("some",), ("within", 2), ("each", "x", "y"),
                       ("one", "a", "y"), ("both", YES), ("till", ANY), ("either", YES)):
            self.assertEqual(put_for(around + (part,), "x", 0), around + (done,))
        for head in ("both", "either", "till"):
            self.assertEqual(put_for((head, part, part), "x", 0), (head, done, done))

    def test_not_within_what_binds_the_same_name(self):
        for head in ("each", "one"):
            shade = (head, "a", "x", ("now", ("same", "x")))
            self.assertEqual(put_for(shade, "x", 3), shade)
            saying = ("both", ("now", ("less", "x")), (head, "a", "y", ("either", ("now", ("same", "x")), shade)))
            self.assertEqual(put_for(saying, "x", 3), ("both", ("now", ("less", 3)),
                                                       (head, "a", "y", ("either", ("now", ("same", 3)), shade))))

    def test_other_variables_names_and_numbers_stay(self):
        for saying in (("now", ("same", "y")), ("now", ("name", "x")), ANY, ("now", ("same", 2)), YES,
                       ("within", 2, YES), ("each", "x", "y", ("now", ("same", "y")))):
            self.assertEqual(put_for(saying, "x", 3), saying)

    def test_told_is_a_saying(self):
        inner = ("either", ("now", ("same", "x")), ("one", "b", "y", ("now", ("less", "y"))))
        self.assertIs(is_saying(put_for(inner, "x", 9)), True)
        self.assertIs(type(put_for(inner, "x", 9)), tuple)
