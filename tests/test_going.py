import unittest

from surewatch.errors import TooMany
from surewatch.going import gone, gone_by, gone_saying, met
from surewatch.reading import read_saying
from surewatch.stands import alike, ends, fits_stand, is_stand, laid, trimmed
from surewatch.tables import happenings_of
from tests.plain import (ONE_MORE, SMALL, TABLE, THREE_HUNDRED, WIDE, Maker, as_sets, is_trimmed, plain_gone,
                         plain_gone_saying, plain_met, plain_trim)


# A stand by texts: bunches parted by commas, things by semicolons, those with False behind a minus.
def stand_of(text):
    if text == "":
        return ()
    return tuple(tuple((read_saying(thing.strip().lstrip("-")), not thing.strip().startswith("-"))
                       for thing in bunch.split(";") if thing.strip()) for bunch in text.split(","))


class Going(unittest.TestCase):

    def is_told(self, told, wanted, of):
        self.assertIs(is_stand(told), True, of)
        self.assertIs(is_trimmed(told), True, of)
        self.assertEqual(as_sets(told), as_sets(wanted), of)


class GoneSayingTest(Going):

    # With True as wanted, with False as turned; a text as stand_of reads it.
    def goes(self, text, happening, wanted, turned):
        saying = read_saying(text)
        self.is_told(gone_saying(saying, True, happening), stand_of(wanted), text)
        self.is_told(gone_saying(saying, False, happening), stand_of(turned), text)

    def test_yes_and_no(self):
        self.goes("yes", ("a", 0), ";", "")
        self.goes("no", ("a", 0), "", ";")

    def test_now(self):
        self.goes("now name a", ("a", 0), ";", "")
        self.goes("now name a", ("b", 0), "", ";")
        self.goes("now less 2", ("b", 1), ";", "")
        self.goes("now less 1", ("b", 1), "", ";")

    def test_not(self):
        self.goes("not now any", ("a", 0), "", ";")
        self.goes("not next now any", ("a", 0), "-now any", "now any")

    def test_both_and_either(self):
        self.goes("both next now any next some yes", ("a", 0), "now any; some yes", "-now any, -some yes")
        self.goes("either next now any next some yes", ("a", 0), "now any, some yes", "-now any; -some yes")
        self.goes("both now name a next some yes", ("a", 0), "some yes", "-some yes")
        self.goes("both now name a next some yes", ("b", 0), "", ";")

    def test_next(self):
        self.goes("next now any", ("a", 0), "now any", "-now any")
        self.goes("next yes", ("a", 0), ";", "")
        self.goes("next either now any not some yes", ("a", 0), "now any, -some yes", "-now any; some yes")

    def test_till(self):
        text = "till next now any next some yes"
        self.goes(text, ("a", 0), "some yes, now any; " + text, "-some yes; -now any, -some yes; -" + text)
        self.goes("till now name a now name b", ("a", 0), "till now name a now name b", "-till now name a now name b")
        self.goes("till now name a now name b", ("b", 0), ";", "")
        self.goes("till now name a now same 3", ("b", 0), "", ";")

    def test_within(self):
        self.goes("within 0 yes", ("a", 0), "", ";")
        self.goes("within 0 next now any", ("a", 0), "", ";")
        self.goes("within 1 next now any", ("a", 0), "now any", "-now any")
        self.goes("within 2 next now any", ("a", 0), "now any, within 1 next now any",
                  "-now any; -within 1 next now any")
        self.goes("within 5 next now any", ("a", 0), "now any, within 4 next now any",
                  "-now any; -within 4 next now any")
        self.goes("within 2 now name b", ("b", 0), ";", "")
        self.goes("within 1 now name b", ("a", 0), "", ";")

    def test_always_and_some(self):
        self.goes("always next now any", ("a", 0), "now any; always next now any", "-now any, -always next now any")
        self.goes("some next now any", ("a", 0), "now any, some next now any", "-now any; -some next now any")
        self.goes("always now name a", ("b", 0), "", ";")
        self.goes("some now name a", ("a", 0), ";", "")

    def test_each_and_one(self):
        text = "each a x next now same x"
        self.goes(text, ("a", 4), "now same 4; " + text, "-now same 4, -" + text)
        self.goes(text, ("b", 4), text, "-" + text)
        text = "one a x next now same x"
        self.goes(text, ("a", 4), "now same 4, " + text, "-now same 4; -" + text)
        self.goes(text, ("b", 4), text, "-" + text)

    def test_shaded_variables(self):
        self.goes("each a x next one b x now same x", ("a", 4), "one b x now same x; each a x next one b x now same x",
                  "-one b x now same x, -each a x next one b x now same x")
        text = "each a x next one b y now same x"
        self.goes(text, ("a", 4), "one b y now same 4; " + text, "-one b y now same 4, -" + text)

    def test_trimmed(self):
        self.goes("some next some next now any", ("a", 0), "some next now any, some next some next now any",
                  "-some next now any; -some next some next now any")
        self.goes("either next now any both next now any next some yes", ("a", 0), "now any", "-now any")

    def test_against_the_plain_words(self):
        for seed in range(1000):
            maker = Maker(seed)
            saying, happening = maker.saying(), maker.pick(happenings_of(TABLE))
            for truth in (True, False):
                wanted = plain_trim(plain_gone_saying(saying, truth, happening))
                self.is_told(gone_saying(saying, truth, happening), wanted, (saying, truth, happening))


class GoneTest(Going):

    def test_none_and_the_bunch_of_none(self):
        self.assertEqual(gone((), ("a", 0)), ())
        self.assertEqual(gone(((),), ("a", 0)), ((),))

    def test_things_are_put_together_and_bunches_stand_side_by_side(self):
        stand = stand_of("next now any; next some yes, next always yes; -now name b")
        self.is_told(gone(stand, ("a", 0)), stand_of("now any; some yes, always yes"), stand)
        self.is_told(gone(stand, ("b", 0)), stand_of("now any; some yes"), stand)

    def test_void_bunches_and_things_told_twice(self):
        thing = (read_saying("next now any"), True)
        self.assertEqual(gone(((thing, (thing[0], False)),), ("a", 0)), ())
        self.is_told(gone(((thing, thing), (thing,)), ("a", 0)), stand_of("now any"), thing)

    def test_against_the_plain_words(self):
        for seed in range(1000):
            maker = Maker(seed)
            stand, happening = maker.stand(), maker.pick(happenings_of(TABLE))
            told = gone(stand, happening)
            self.is_told(told, plain_gone(stand, happening), (stand, happening))
            self.assertIs(alike(told, gone(trimmed(stand), happening)), True)

    def test_a_row_fits_it_just_where_the_happening_with_the_row_behind_fits_the_stand(self):
        for seed in range(1000):
            maker = Maker(seed)
            stand, happening, row = maker.stand(), maker.pick(happenings_of(TABLE)), maker.row(TABLE, 3)
            self.assertIs(fits_stand(gone(stand, happening), row), fits_stand(stand, (happening,) + row))

    def test_what_is_told_may_be_handed_in_again(self):
        for seed in range(100):
            maker = Maker(seed)
            stand = maker.stand()
            for happening in maker.row(TABLE, 5):
                later = gone(stand, happening)
                self.is_told(later, plain_gone(stand, happening), (stand, happening))
                stand = later


class GoneByTest(Going):

    def test_happening_by_happening(self):
        for seed in range(400):
            maker = Maker(seed)
            stand, row = maker.stand(), maker.row(TABLE, 4)
            wanted = stand
            for happening in row:
                wanted = plain_gone(wanted, happening)
            self.is_told(gone_by(stand, row), plain_trim(wanted), (stand, row))
            self.assertIs(ends(gone_by(stand, row)), fits_stand(stand, row))

    def test_the_row_of_none(self):
        stand = stand_of("now any; some yes, now any, -some yes; some yes")
        for row in ((), []):
            self.is_told(gone_by(stand, row), stand_of("now any"), stand)

    def test_lists_do_and_stay_as_they_were(self):
        row = [("a", 0), ("b", 1)]
        self.is_told(gone_by(stand_of("next next now any"), row), stand_of("now any"), row)
        self.assertEqual(row, [("a", 0), ("b", 1)])

    def test_rows_of_sixty(self):
        text = "each a x next some now same x"
        stand = laid(read_saying(text), True)
        row = (("a", 0), ("b", 1), ("a", 2)) * 20
        self.is_told(gone_by(stand, row), stand_of(text + "; some now same 0; some now same 2"), row)
        self.is_told(gone_by(stand, row + (("a", 0),)), gone_by(stand, row), row)
        self.is_told(gone_by(stand, row + (("b", 2),)), stand_of(text + "; some now same 0"), row)
        self.is_told(gone_by(stand, row + (("b", 2), ("b", 0))), stand_of(text), row)


class MetTest(Going):

    def test_the_first_is_the_stand_itself_trimmed(self):
        stand = stand_of("always now any; some yes, always now any, -some yes; some yes")
        self.is_told(met(TABLE, stand)[0], stand_of("always now any"), stand)

    def test_few(self):
        self.assertEqual(met(TABLE, ()), [()])
        self.assertEqual(met(TABLE, ((),)), [((),)])
        self.assertEqual(met(TABLE, laid(read_saying("now name b"), True)),
                         [stand_of("now name b"), (), ((),)])
        self.assertEqual(met((("b", 0),), laid(read_saying("now name b"), True)), [stand_of("now name b"), ((),)])

    def test_shorter_rows_first_then_by_the_tables_order(self):
        saying = read_saying("each a x some both now name b now same x")
        table = (("b", 1), ("a", 1))
        waits = [f"some both now name b now same {k}" for k in range(2)]
        itself = "each a x some both now name b now same x"
        wanted = [itself, itself + ";" + waits[0], itself + ";" + waits[1], ";".join([itself] + waits)]
        told = met(table, laid(saying, True))
        self.assertEqual([as_sets(stand) for stand in told], [as_sets(stand_of(text)) for text in wanted])
        turned = met((("b", 1), ("a", 1))[::-1], laid(read_saying("now name b"), True))
        self.assertEqual(turned, [stand_of("now name b"), (), ((),)])
        turned = met((("b", 1), ("a", 1)), laid(read_saying("now name b"), True))
        self.assertEqual(turned, [stand_of("now name b"), ((),), ()])

    def test_against_the_plain_words(self):
        for seed in range(300):
            stand = laid(Maker(seed).saying(9), True)
            wanted = plain_met(SMALL, stand)
            told = met(SMALL, stand)
            self.assertEqual([as_sets(one) for one in told], [as_sets(one) for one in wanted], seed)
            for one in told:
                self.assertIs(is_stand(one) and is_trimmed(one), True)

    def test_stands_that_are_no_sayings(self):
        for seed in range(100):
            stand = Maker(seed).stand(3, 2)
            wanted = plain_met(SMALL, stand)
            if len(wanted) <= 300:
                self.assertEqual([as_sets(one) for one in met(SMALL, stand)], [as_sets(one) for one in wanted], seed)

    def test_just_three_hundred(self):
        told = met(TABLE, laid(THREE_HUNDRED, True))
        self.assertEqual(len(told), 300)
        wanted = plain_met(TABLE, laid(THREE_HUNDRED, True))
        self.assertEqual([as_sets(one) for one in told], [as_sets(one) for one in wanted])

    def test_more_than_three_hundred(self):
        self.assertEqual(len(plain_met(WIDE, laid(ONE_MORE, True))), 301)
        for saying in (ONE_MORE, read_saying("each a x each b y some both now same x next now same y")):
            with self.assertRaises(TooMany) as taken:
                met(WIDE, laid(saying, True))
            self.assertEqual(taken.exception.word, "stands")

    def test_the_told_list_is_the_askers_own(self):
        stand = laid(read_saying("some now name b"), True)
        told = met(TABLE, stand)
        self.assertIs(type(told), list)
        told.clear()
        self.assertEqual(len(met(TABLE, stand)), 2)
