import copy
import unittest

from surewatch.meaning import fits
from surewatch.stands import alike, ends, fits_stand, is_stand, laid, shows, trimmed
from tests.plain import STRANGE, TABLE, Maker, as_sets, is_trimmed, plain_holds, plain_laid, plain_trim

YES = ("yes",)
A = ("now", ("name", "a"))
B = ("some", ("now", ("name", "b")))
C = ("next", YES)
D = ("always", A)
# A basic of each head, with the truth with which the row without happenings fits it.
AT_THE_END = (
    (A, False), (C, False), (("till", YES, YES), False), (("within", 5, YES), False), (("some", YES), False),
    (("one", "a", "x", YES), False), (("always", ("no",)), True), (("each", "a", "x", ("no",)), True),
)


def on(*basics):
    return tuple((basic, True) for basic in basics)


def off(*basics):
    return tuple((basic, False) for basic in basics)


class IsStandTest(unittest.TestCase):

    def test_stands(self):
        for thing in ((), ((),), ((), ()), (on(A),), (on(A, B) + off(C), (), off(D)), (on(A, A) + off(A), on(A))):
            self.assertIs(is_stand(thing), True, thing)

    def test_of_whatever_size(self):
        self.assertIs(is_stand((on(A, B),) * 5000), True)
        self.assertIs(is_stand((on(A) * 5000,)), True)
        self.assertIs(is_stand((on(A, B),) * 5000 + (on(A, YES),)), False)

    def test_lists_in_the_place_of_tuples(self):
        for thing in ([], [on(A)], ([],), (list(on(A)),), ((list(on(A)[0]),),), ((([A[0], A[1]], True),),)):
            self.assertIs(is_stand(thing), False, repr(thing))

    def test_truths_are_no_numbers(self):
        for truth in (0, 1, None, "True", (), (True,)):
            self.assertIs(is_stand((((A, truth),),)), False, repr(truth))

    def test_basics_alone(self):
        for saying in (YES, ("no",), ("not", A), ("both", A, A), ("either", A, A), ("now", ("same", "x")), ("now",)):
            self.assertIs(is_stand((((saying, True),),)), False, saying)

    def test_other_shapes(self):
        for thing in (A, on(A), on(A)[0], (((A,),),), (((A, True, True),),), (((True, A),),), "", "now", None, 0, True,
                      (None,), ((), None), (((), True),), ("",), (("",),)):
            self.assertIs(is_stand(thing), False, repr(thing))

    def test_strange_things(self):
        for thing in STRANGE:
            self.assertIs(is_stand(thing), thing == () or thing == ((),), repr(thing))
            self.assertIs(is_stand((thing,)), thing == () or thing == ((("now", ("any",)), True),), repr(thing))
            self.assertIs(is_stand(((thing,),)), False, repr(thing))

    def test_what_is_handed_in_stays(self):
        thing = [[("now", True)], (None,)]
        before = copy.deepcopy(thing)
        is_stand(thing)
        self.assertEqual(thing, before)


class TrimmedTest(unittest.TestCase):

    def trims(self, stand, wanted):
        told = trimmed(stand)
        self.assertIs(is_stand(told), True)
        self.assertIs(is_trimmed(told), True)
        self.assertEqual(as_sets(told), as_sets(wanted))

    def test_none_and_the_bunch_of_none(self):
        self.assertEqual(trimmed(()), ())
        self.assertEqual(trimmed(((),)), ((),))
        self.assertEqual(trimmed(((), on(A), ())), ((),))

    def test_void_bunches_go(self):
        self.trims((on(A) + off(A),), ())
        self.trims((on(A, B) + off(C, A), on(D)), (on(D),))
        self.trims((off(A) + on(B, A), off(A) + on(B)), (off(A) + on(B),))

    def test_bunches_of_unlike_basics_are_not_void(self):
        self.trims((on(A) + off(B),), (on(A) + off(B),))
        self.trims((off(A) + on(B), off(B) + on(C)), (off(A) + on(B), off(B) + on(C)))

    def test_a_void_bunch_takes_no_other_with_it(self):
        self.trims((on(A) + off(A), on(A, B) + off(A), on(A, B)), (on(A, B),))

    def test_things_told_twice_stand_once(self):
        self.trims((on(A, A, B) + on(A),), (on(A, B),))

    def test_those_within_which_another_one_lies_go(self):
        self.trims((on(A, B), on(A), on(B, C)), (on(A), on(B, C)))
        self.trims((on(A), on(A, B), on(A, B, C)), (on(A),))
        self.trims((on(A), off(A, B)), (on(A), off(A, B)))

    def test_of_like_ones_one_stays(self):
        self.trims((on(A, B), on(B, A), on(A, B, B)), (on(A, B),))

    def test_against_the_plain_trimming(self):
        for seed in range(1000):
            stand = Maker(seed).stand(6, 4)
            self.trims(stand, plain_trim(stand))

    def test_great_stands(self):
        basics = [("now", ("same", number)) for number in range(10)] + [A, B]
        stand = tuple(on(*basics[first:]) + off(*basics[:first]) for first in range(12)) * 3 + (on(A, B), off(A)) * 2
        self.trims(stand, plain_trim(stand))


class AlikeTest(unittest.TestCase):

    def test_the_order_of_things_and_bunches_is_nothing(self):
        self.assertIs(alike((on(A, B), off(C)), (off(C), on(B, A))), True)

    def test_trimmed_first(self):
        self.assertIs(alike((on(A), on(A, B), on(C) + off(C)), (on(A, A),)), True)
        self.assertIs(alike((on(A) + off(A),), ()), True)
        self.assertIs(alike(((), on(A)), ((),)), True)

    def test_unlike_ones(self):
        self.assertIs(alike((), ((),)), False)
        self.assertIs(alike((on(A),), (off(A),)), False)
        self.assertIs(alike((on(A),), (on(B),)), False)
        self.assertIs(alike((on(A),), (on(A), on(B))), False)
        self.assertIs(alike((on(A), on(B)), (on(A, B),)), False)
        self.assertIs(alike((on(A), off(A)), ((),)), False)

    def test_against_the_plain_trimming(self):
        for seed in range(300):
            maker = Maker(seed)
            one, other = maker.stand(3, 2), maker.stand(3, 2)
            self.assertIs(alike(one, other), plain_trim(one) == plain_trim(other))
            self.assertIs(alike(one, trimmed(one)), True)


class LaidTest(unittest.TestCase):

    def lays(self, saying, truth, wanted):
        told = laid(saying, truth)
        self.assertIs(is_stand(told), True)
        self.assertIs(is_trimmed(told), True)
        self.assertEqual(as_sets(told), as_sets(wanted), saying)

    def test_yes_and_no(self):
        self.assertEqual(laid(YES, True), ((),))
        self.assertEqual(laid(("no",), False), ((),))
        self.assertEqual(laid(YES, False), ())
        self.assertEqual(laid(("no",), True), ())

    def test_basics(self):
        for basic, truth in AT_THE_END:
            self.assertEqual(laid(basic, True), (((basic, True),),))
            self.assertEqual(laid(basic, False), (((basic, False),),))

    def test_not(self):
        self.lays(("not", A), True, (off(A),))
        self.lays(("not", A), False, (on(A),))
        self.lays(("not", ("not", YES)), True, ((),))

    def test_both_and_either(self):
        self.lays(("both", A, B), True, (on(A, B),))
        self.lays(("both", A, B), False, (off(A), off(B)))
        self.lays(("either", A, B), True, (on(A), on(B)))
        self.lays(("either", A, B), False, (off(A, B),))
        self.lays(("both", ("either", A, B), ("either", C, D)), True, (on(A, C), on(A, D), on(B, C), on(B, D)))
        self.lays(("either", ("both", A, B), ("both", C, D)), False, (off(A, C), off(A, D), off(B, C), off(B, D)))

    def test_told_trimmed(self):
        self.lays(("both", A, ("not", A)), True, ())
        self.lays(("either", A, ("both", A, B)), True, (on(A),))
        self.lays(("either", YES, A), True, ((),))
        self.lays(("both", A, A), True, (on(A),))

    def test_against_the_plain_laying(self):
        for seed in range(600):
            saying = Maker(seed).saying(16)
            for truth in (True, False):
                self.lays(saying, truth, plain_trim(plain_laid(saying, truth)))

    def test_a_row_fits_the_saying_just_where_it_fits_its_stand(self):
        for seed in range(600):
            maker = Maker(seed)
            saying, row = maker.saying(), maker.row(TABLE, 4)
            self.assertIs(fits_stand(laid(saying, True), row), fits(saying, row))
            self.assertIs(fits_stand(laid(saying, False), row), not fits(saying, row))


class ShowsTest(unittest.TestCase):

    def test_has_all_things_of_some_bunch(self):
        self.assertIs(shows((on(A, B),), (on(A),)), True)
        self.assertIs(shows((on(A),), (on(A, B),)), False)
        self.assertIs(shows((on(A), on(B, C)), (on(B), on(A), on(D))), True)
        self.assertIs(shows((on(A), on(B, C), on(D)), (on(B), on(A))), False)
        self.assertIs(shows((on(A),), (off(A),)), False)

    def test_none_and_the_bunch_of_none(self):
        for stand in ((), ((),), (on(A),)):
            self.assertIs(shows((), stand), True)
            self.assertIs(shows(stand, ((),)), True)
            self.assertIs(shows(stand, stand), True)
        self.assertIs(shows(((),), ()), False)
        self.assertIs(shows(((),), (on(A),)), False)
        self.assertIs(shows((on(A),), ()), False)

    def test_void_bunches_need_nothing(self):
        self.assertIs(shows((on(A) + off(A),), ()), True)
        self.assertIs(shows((on(A) + off(A), on(B)), (on(B),)), True)
        self.assertIs(shows((on(B),), (on(A) + off(A),)), False)

    def test_against_the_plain_words(self):
        for seed in range(600):
            maker = Maker(seed)
            one, other = maker.stand(), maker.stand()
            mixed = tuple(bunch[:1] for bunch in one) + other
            for first, second in ((one, other), (one, mixed), (mixed, one), (trimmed(one), mixed)):
                wanted = all(any(less <= bunch for less in as_sets(second)) for bunch in plain_trim(first))
                self.assertIs(shows(first, second), wanted)
                self.assertIs(shows(trimmed(first), trimmed(second)), wanted)


class EndsTest(unittest.TestCase):

    def test_always_and_each_with_true_others_with_false(self):
        for basic, truth in AT_THE_END:
            self.assertIs(ends((((basic, truth),),)), True, basic)
            self.assertIs(ends((((basic, not truth),),)), False, basic)

    def test_one_bunch_is_enough_and_all_its_things_are_asked(self):
        self.assertIs(ends(()), False)
        self.assertIs(ends(((),)), True)
        self.assertIs(ends((on(A), on(D) + off(A, B))), True)
        self.assertIs(ends((on(D, A), off(D, A))), False)
        self.assertIs(ends((on(D) + off(D), on(A) + off(A))), False)

    def test_where_the_row_without_happenings_fits_it(self):
        for seed in range(600):
            stand = Maker(seed).stand()
            self.assertIs(ends(stand), fits_stand(stand, ()))
            self.assertIs(ends(stand), ends(trimmed(stand)))


class FitsStandTest(unittest.TestCase):

    def test_none_and_the_bunch_of_none(self):
        for row in ((), (("a", 0),), [("b", 1)] * 60):
            self.assertIs(fits_stand((), row), False)
            self.assertIs(fits_stand(((),), row), True)

    def test_some_bunch_all_of_its_things(self):
        row = (("a", 0), ("b", 1))
        self.assertIs(fits_stand((on(A, B),), row), True)
        self.assertIs(fits_stand((on(A, D),), row), False)
        self.assertIs(fits_stand((on(A) + off(D),), row), True)
        self.assertIs(fits_stand((on(D), off(A), on(C)), row), True)
        self.assertIs(fits_stand((on(D), off(A)), row), False)
        self.assertIs(fits_stand((on(A) + off(A),), row), False)

    def test_lists_do_and_stay_as_they_were(self):
        row = [("a", 0), ("b", 1)]
        self.assertIs(fits_stand((on(A, B),), row), True)
        self.assertEqual(row, [("a", 0), ("b", 1)])

    def test_against_the_plain_meaning(self):
        for seed in range(600):
            maker = Maker(seed)
            stand, row = maker.stand(), maker.row(TABLE, 4)
            wanted = any(all(plain_holds(basic, row, 0) == truth for basic, truth in bunch) for bunch in stand)
            self.assertIs(fits_stand(stand, row), wanted)
            self.assertIs(fits_stand(trimmed(stand), row), wanted)
