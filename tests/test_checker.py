import unittest

from surewatch.checker import lets_verdict
from surewatch.going import gone_by, met
from surewatch.stands import laid
from surewatch.tables import happenings_of, is_row
from surewatch.verdicts import verdict
from tests.plain import (SMALL, STRANGE, TABLE, TWO, Maker, ask, bent, paths_in, plain_by, plain_ends, plain_gone,
                         plain_holds, plain_laid, plain_shows, plain_word)
from tests.things import A, ALL_A, EACH, MANY, NONE, SOME_A, a, b, no_paper

YES = ("yes",)
ANY = ("now", ("any",))


def on(*basics):
    return tuple((basic, True) for basic in basics)


def off(*basics):
    return tuple((basic, False) for basic in basics)


# What 22 says, word by word, of a paper of the right shape.
def plain_lets(table, saying, row, told):
    if told[0] == "open":
        if not plain_holds(saying, tuple(row) + told[1], 0):
            return no_paper(0, "fit")
        return no_paper(1, "fit") if plain_holds(saying, tuple(row) + told[2], 0) else True
    yes, stands = told[0] == "yes", told[1]

    def held(later):
        return any(plain_shows(stand, later) if yes else plain_shows(later, stand) for stand in stands)
    for k, stand in enumerate(stands):
        if plain_ends(stand) != yes:
            return no_paper(k, "end")
    for k, stand in enumerate(stands):
        if not all(held(plain_gone(stand, happening)) for happening in happenings_of(table)):
            return no_paper(k, "on")
    begin = plain_by(plain_laid(saying, True), row)
    return True if held(begin) else no_paper(len(stands), "begin")


class OpenTest(unittest.TestCase):

    def test_let_by(self):
        for row, one, other in (((), (a,), ()), ((b,), (b, a), (b,)), ([b, b], (a, b), ())):
            self.assertIs(ask(lets_verdict, TWO, SOME_A, row, ("open", one, other)), True)

    def test_the_first_row_has_to_fit_the_second_not(self):
        self.assertEqual(ask(lets_verdict, TWO, SOME_A, (b,), ("open", (b,), ())), no_paper(0, "fit"))
        self.assertEqual(ask(lets_verdict, TWO, SOME_A, (b,), ("open", (a,), (b, a))), no_paper(1, "fit"))
        self.assertEqual(ask(lets_verdict, TWO, SOME_A, (b,), ("open", (), (a,))), no_paper(0, "fit"))
        self.assertEqual(ask(lets_verdict, TWO, SOME_A, (a,), ("open", (), ())), no_paper(1, "fit"))

    def test_they_stand_behind_the_row(self):
        saying = ("next", ("next", A))
        self.assertIs(ask(lets_verdict, TWO, saying, (b,), ("open", (b, a), (a, b))), True)
        self.assertEqual(ask(lets_verdict, TWO, saying, (b,), ("open", (b, b, a), ())), no_paper(0, "fit"))

    def test_rows_of_any_length(self):
        self.assertIs(ask(lets_verdict, TWO, SOME_A, (b,) * 60, ("open", (b,) * 4000 + (a,), (b,) * 4000)), True)


class SureTest(unittest.TestCase):

    def test_let_by(self):
        for saying, row, told in (
                (YES, (), ("yes", (EACH,))), (("no",), (), ("no", (NONE,))), (SOME_A, (a,), ("yes", (EACH,))),
                (ALL_A, [a, b], ("no", (NONE,))), (("always", ANY), (), ("yes", ((on(("always", ANY)),),))),
                (("some", ("no",)), (b,), ("no", ((on(("some", ("no",))),),))),
                (("not", ALL_A), (b,), ("yes", (EACH,)))):
            self.assertIs(ask(lets_verdict, TWO, saying, row, told), True, saying)

    def test_all_the_tables_happenings_are_gone_through(self):
        told = ("yes", ((on(ALL_A),),))
        self.assertIs(ask(lets_verdict, (("a", 3),), ALL_A, (), told), True)
        self.assertEqual(ask(lets_verdict, TWO, ALL_A, (), told), no_paper(0, "on"))
        self.assertIs(ask(lets_verdict, (("a", 0),), ("always", ("now", ("less", 1))), (),
                          ("yes", ((on(("always", ("now", ("less", 1)))),),))), True)
        self.assertEqual(ask(lets_verdict, (("a", 1),), ("always", ("now", ("less", 1))), (),
                             ("yes", ((on(("always", ("now", ("less", 1)))),),))), no_paper(0, "on"))

    def test_no_stands(self):
        self.assertEqual(ask(lets_verdict, TWO, YES, (), ("yes", ())), no_paper(0, "begin"))
        self.assertEqual(ask(lets_verdict, TWO, ("no",), (), ("no", ())), no_paper(0, "begin"))

    def test_stands_that_do_not_end_as_told(self):
        self.assertEqual(ask(lets_verdict, TWO, YES, (), ("yes", (NONE,))), no_paper(0, "end"))
        self.assertEqual(ask(lets_verdict, TWO, YES, (), ("yes", (EACH, EACH, (on(SOME_A),)))), no_paper(2, "end"))
        self.assertEqual(ask(lets_verdict, TWO, ("no",), (), ("no", (NONE, EACH))), no_paper(1, "end"))
        self.assertEqual(ask(lets_verdict, TWO, ("no",), (), ("no", (NONE, (on(ALL_A),)))), no_paper(1, "end"))

    def test_ends_of_all_stands_ahead_of_going_on_ahead_of_the_begin(self):
        told = ("yes", ((on(ALL_A),), NONE))
        self.assertEqual(ask(lets_verdict, TWO, SOME_A, (), told), no_paper(1, "end"))
        told = ("yes", (EACH, EACH, (on(ALL_A),), (on(ALL_A),)))
        self.assertEqual(ask(lets_verdict, TWO, SOME_A, (), told), no_paper(2, "on"))
        told = ("yes", (EACH, EACH, EACH))
        self.assertEqual(ask(lets_verdict, TWO, SOME_A, (), told), no_paper(3, "begin"))

    def test_the_first_stand_that_is_left(self):
        told = ("yes", ((on(("always", YES)),), (on(ALL_A),), (on(ALL_A),)))
        self.assertEqual(ask(lets_verdict, TWO, YES, (), told), no_paper(1, "on"))
        told = ("no", ((on(("some", ("no",))),), (on(SOME_A),)))
        self.assertEqual(ask(lets_verdict, TWO, SOME_A, (), told), no_paper(1, "on"))

    def test_begin(self):
        self.assertEqual(ask(lets_verdict, TWO, SOME_A, (b,), ("yes", (EACH, EACH))), no_paper(2, "begin"))
        self.assertEqual(ask(lets_verdict, TWO, ALL_A, (a,), ("no", (NONE,))), no_paper(1, "begin"))
        self.assertIs(ask(lets_verdict, TWO, SOME_A, (b, a), ("yes", (EACH, EACH))), True)

    # Each stand shows ((),), and () shows each: by showing a short paper does where the met stands are many.
    def test_stands_that_show_but_are_not_alike(self):
        always = ("always", ANY)
        saying = ("either", always, SOME_A)
        self.assertIs(ask(lets_verdict, TWO, saying, (), ("yes", ((on(always),),))), True)
        self.assertEqual(ask(lets_verdict, TWO, always, (), ("yes", ((on(always), on(SOME_A)),))), no_paper(1, "begin"))
        never = ("some", ("no",))
        self.assertIs(ask(lets_verdict, TWO, ("both", never, SOME_A), (), ("no", ((on(never),),))), True)
        self.assertEqual(ask(lets_verdict, TWO, never, (), ("no", ((on(never, always),),))), no_paper(1, "begin"))

    def test_stands_need_not_be_trimmed(self):
        always = ("always", ANY)
        bunch = on(always, always)
        told = ("yes", ((bunch, on(SOME_A) + off(SOME_A), on(always, SOME_A), bunch), (on(ANY) + off(ANY), ())))
        self.assertIs(ask(lets_verdict, TWO, always, (), told), True)
        told = ("no", ((on(SOME_A) + off(SOME_A),),))
        self.assertIs(ask(lets_verdict, TWO, ("no",), (), told), True)

    # A void bunch of things that end, each by itself, ends nowhere.
    def test_void_bunches(self):
        told = ("yes", ((on(SOME_A) + off(SOME_A),),))
        self.assertEqual(ask(lets_verdict, TWO, ("no",), (), told), no_paper(0, "end"))

    def test_more_than_three_hundred_stands_are_refused_nowhere(self):
        saying = MANY
        wide = (("a", 5), ("b", 5))
        row = tuple(happenings_of(wide)) * 2
        self.assertIs(ask(lets_verdict, wide, saying, (), ("open", (), (a, b))), True)
        self.assertEqual(ask(lets_verdict, wide, saying, row, ("no", (NONE,))), no_paper(1, "begin"))
        self.assertEqual(ask(lets_verdict, wide, ("both", ("no",), saying), row, ("no", (NONE,))), True)
        self.assertEqual(ask(lets_verdict, wide, ("either", saying, ("always", ANY)), (),
                             ("yes", ((on(("always", ANY)),),))), True)


class ShapeTest(unittest.TestCase):

    def refused(self, thing, table=TWO, saying=SOME_A, row=()):
        self.assertEqual(ask(lets_verdict, table, saying, row, thing), no_paper(-1, "shape"), repr(thing))

    def test_strange_things(self):
        for thing in STRANGE:
            self.refused(thing)
            self.refused(("yes", thing) if thing not in ((), ((),)) else thing)
            self.refused(("no", (EACH, thing)) if thing not in ((), ((),)) else thing)
            self.refused((thing, (EACH,)) if thing != "yes" else thing)
            self.refused(("open", thing, ()) if thing != () else thing)
            self.refused(("open", (a,), thing) if thing != () else thing)

    def test_lists_in_the_place_of_tuples(self):
        for thing in (["yes", (EACH,)], ("yes", [EACH]), ("yes", ([()],)), ("yes", ([],)), ["open", (a,), ()],
                      ("open", [a], ()), ("open", (a,), []), ("open", (["a", 0],), ())):
            self.refused(thing)

    def test_lengths(self):
        for thing in (("yes",), ("yes", (EACH,), ()), ("open", (a,)), ("open", (a,), (), ()), ("open",), ("no",),
                      ("yes", EACH, EACH), ("open", (EACH,))):
            self.refused(thing)

    def test_other_words(self):
        for word in ("Yes", "maybe", "", "open", True, None, ("yes",)):
            self.refused((word, (EACH,)))
        for word in ("yes", "no", "opens", True):
            self.refused((word, (a,), ()))

    def test_rows_of_another_table(self):
        self.refused(("open", (("c", 0),), ()))
        self.refused(("open", (a,), (("b", 1),)))
        self.refused(("open", (("a", False),), ()))
        self.refused(("open", (("a", True),), ()), TABLE)

    def test_things_that_are_no_stands(self):
        within = ("within", 1, A)
        self.assertEqual(ask(lets_verdict, TWO, YES, (), ("yes", ((on(within),),))), no_paper(0, "end"))
        self.refused(("yes", (((("within", True, A), True),),)))
        self.refused(("yes", (EACH, (((A, 1),),))))
        self.refused(("yes", (EACH, (((YES, True),),))))
        self.refused(("yes", (EACH, (((("now", ("same", "x")), True),),))))

    def test_ahead_of_all_else(self):
        self.refused(("yes", (NONE, None)))
        self.refused(("open", (), None), row=(a,))

    def test_each_place_of_a_paper_bent(self):
        for told in (("yes", (EACH, (on(ALL_A) + off(SOME_A), on(ANY)))), ("open", (a, b), (b, b))):
            for path in paths_in(told):
                for thing in (None, -1, [], "ninesigns"):
                    self.refused(bent(told, path, thing))


class AgreeTest(unittest.TestCase):

    def paper(self, maker, table, saying, row):
        word = maker.pick(("yes", "no", "yes", "no", "open"))
        if word == "open":
            return (word, maker.row(table, 3), maker.row(table, 3))
        stands = [gone_by(laid(saying, True), maker.row(table, 4)) for _ in range(maker.random.randint(0, 3))]
        stands += met(table, gone_by(laid(saying, True), row)) if maker.pick((True, True, False)) else []
        stands += [maker.stand(3, 2)] if maker.pick((True, False, False)) else []
        stands += maker.pick(([], [EACH], [NONE]))
        maker.random.shuffle(stands)
        if len(stands) > 1 and maker.pick((True, False)):
            stands.pop()
        return (word, tuple(stands))

    def test_against_the_plain_words(self):
        words = {}
        for seed in range(1500):
            maker = Maker(seed)
            saying, row = maker.saying(7), maker.row(SMALL, 3)
            told = self.paper(maker, SMALL, saying, row)
            wanted = plain_lets(SMALL, saying, row, told)
            self.assertEqual(ask(lets_verdict, SMALL, saying, row, told), wanted, (seed, saying, row, told))
            word = wanted if wanted is True else wanted[1]["word"]
            words[word] = words.get(word, 0) + 1
        self.assertEqual(len(words), 5)
        self.assertGreater(min(words.values()), 30, words)

    # Whoever wrote it: what is let by is the verdict.
    def test_what_is_let_by_is_right(self):
        for seed in range(600):
            maker = Maker(seed)
            saying, row = maker.saying(5), maker.row(TWO, 2)
            told = self.paper(maker, TWO, saying, row)
            if ask(lets_verdict, TWO, saying, row, told) is True:
                word = plain_word(TWO, lambda whole: plain_holds(saying, whole, 0), row, 5)
                self.assertEqual(told[0], word, seed)

    def test_each_right_verdict_has_a_paper(self):
        for seed in range(300):
            maker = Maker(seed)
            saying, row = maker.saying(), maker.row(SMALL, 5)
            told = verdict(SMALL, saying, list(row))
            self.assertIs(ask(lets_verdict, SMALL, saying, row, told), True, seed)
            self.assertIs(ask(lets_verdict, SMALL, saying, list(row), told), True, seed)
            if told[0] != "open":
                turned = ("no" if told[0] == "yes" else "yes", told[1])
                self.assertEqual(ask(lets_verdict, SMALL, saying, row, turned), no_paper(0, "end"))
            else:
                self.assertIs(is_row(SMALL, told[1]), True)
                turned = ("open", told[2], told[1])
                self.assertEqual(ask(lets_verdict, SMALL, saying, row, turned), no_paper(0, "fit"))
