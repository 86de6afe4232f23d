import unittest

from surewatch.errors import NoRing
from surewatch.going import met
from surewatch.ringchecker import lets_settling
from surewatch.settling import settled_by
from surewatch.stands import laid
from surewatch.tables import happenings_of
from surewatch.verdicts import verdict
from tests.plain import (SMALL, STRANGE, TABLE, TWO, WIDE, Maker, ask, bent, paths_in, plain_fits_stand, plain_gone,
                         plain_holds, plain_laid, plain_shows, plain_word, rows_up_to, with_lists)
from tests.things import A, ALL_A, EACH, LAST_A, MANY, NONE, SOME_A, a, b, no_paper, stand

# The stands that LAST_A meets: itself, and itself with a some.
FIRST = stand(LAST_A)
SECOND = stand(SOME_A, LAST_A)
PROS = ((FIRST, ()), (SECOND, (a,)))
CONS = ((FIRST, (b,)), (SECOND, ()))
NEVER = ("never", PROS, CONS)
SETTLED = ("settled", (a,), ("yes", (EACH,)))


def no_ring(word, number):
    return (NoRing, {"word": word, "number": number})


# What 44 says of never, word by word, of a thing of that form.
def plain_lets(table, saying, told):
    begin = plain_laid(saying, True)
    ahead = 0
    for entries, truth in ((told[1], True), (told[2], False)):
        def held(one):
            return any(plain_shows(entry[0], one) if truth else plain_shows(one, entry[0]) for entry in entries)
        if not held(begin):
            return no_ring("begin", ahead)
        for number, (one, row) in enumerate(entries):
            if plain_fits_stand(one, row) != truth:
                return no_ring("row", ahead + number)
            if not all(held(plain_gone(one, happening)) for happening in happenings_of(table)):
                return no_ring("next", ahead + number)
        ahead += len(entries)
    return True


class Checks(unittest.TestCase):

    def told_is(self, wanted, told, saying=LAST_A, table=TWO):
        wanted = wanted if wanted is True else no_ring(wanted[0], wanted[1])
        self.assertEqual(ask(lets_settling, table, saying, told), wanted, told)


class LetByTest(Checks):

    def test_never(self):
        self.told_is(True, NEVER)
        self.told_is(True, ("never", PROS[::-1], CONS[::-1]))

    # One stand that shows both is enough for the pros, one that both show for the cons.
    def test_stands_that_show_but_are_not_alike(self):
        self.told_is(True, ("never", ((SECOND, (a,)),), CONS))
        self.told_is(True, ("never", PROS, ((FIRST, (b,)),)))
        self.told_is(True, ("never", ((SECOND, (b, a)),), ((FIRST, (a, b)),)))
        self.told_is(("next", 0), ("never", PROS[:1], CONS))

    def test_more_entries_than_are_needed(self):
        self.told_is(True, ("never", PROS + PROS, CONS))
        self.told_is(True, ("never", PROS + ((EACH, (b,)),), CONS + ((NONE, ()),)))

    def test_rows_of_any_length(self):
        self.told_is(True, ("never", ((FIRST, (b,) * 2000 + (a,)), PROS[1]), CONS))
        self.told_is(True, ("never", PROS, (CONS[0], (SECOND, (a, b) * 1000))))

    def test_stands_need_not_be_trimmed(self):
        void = ((A, True), (A, False))
        first = (((LAST_A, True), (LAST_A, True)), void)
        second = (((SOME_A, True), (LAST_A, True)), void, ((A, True), (SOME_A, True), (LAST_A, True)))
        self.told_is(True, ("never", ((first, ()), (second, (a,))), ((first, (b,)), (second, ()))))

    def test_settled(self):
        self.told_is(True, SETTLED, SOME_A)
        self.told_is(True, ("settled", (b, b, a, b), ("yes", (EACH,))), SOME_A)
        self.told_is(True, ("settled", (), ("yes", (EACH,))), ("yes",))
        self.told_is(True, ("settled", (), ("no", (NONE,))), ("no",))
        self.told_is(True, ("settled", (b,), ("no", (NONE,))), ALL_A)
        self.told_is(True, ("settled", (a,) * 2000 + (b,), ("no", (NONE,))), ALL_A)

    def test_more_than_three_hundred_stands_are_refused_nowhere(self):
        self.told_is(("next", 0), ("never", ((laid(MANY, True), ()),), ()), MANY, WIDE)
        self.told_is(True, ("settled", (), ("yes", (EACH,))), ("either", ("yes",), MANY), WIDE)
        some = ("both", ("next", ("next", LAST_A)), MANY)
        self.told_is(("row", 0), ("never", ((NONE, ()),), ()), some, WIDE)


class ShapeTest(Checks):

    def test_strange_things(self):
        for thing in STRANGE + ("never", "settled", ("never",), ("settled", ()), ("never", ())):
            self.told_is(("shape", 0), thing)
            self.told_is(("shape", 0), (thing, PROS, CONS) if thing != "never" else thing)
            self.told_is(("shape", 0), ("never", thing, CONS) if thing != () else [])
            self.told_is(("shape", 0), ("never", PROS, thing) if thing != () else [])
            self.told_is(("shape", 0), ("settled", thing, ("yes", (EACH,))) if thing != () else [])

    def test_each_place_of_never_bent(self):
        for path in paths_in(NEVER):
            for thing in (None, -1, [], "ninesigns"):
                self.told_is(("shape", 0), bent(NEVER, path, thing))

    def test_lists_in_the_place_of_tuples(self):
        for bad in with_lists(NEVER):
            self.told_is(("shape", 0), bad)
        self.told_is(("shape", 0), list(SETTLED), SOME_A)
        self.told_is(("shape", 0), ("settled", [a], SETTLED[2]), SOME_A)

    def test_lengths(self):
        for told in (NEVER[:2], NEVER + ((),), SETTLED[:2], SETTLED + ((),), ("never", PROS + ((FIRST,),), CONS),
                     ("never", PROS + ((FIRST, (), ()),), CONS), ("never", PROS, CONS + ((),))):
            self.told_is(("shape", 0), told, SOME_A)

    def test_rows_of_another_table(self):
        for row in ((("c", 0),), (("a", 1),), (("a", False),), [a], a, (a, None)):
            self.told_is(("shape", 0), ("settled", row, ("yes", (EACH,))), SOME_A)
            self.told_is(("shape", 0), bent(NEVER, (1, 0, 1), row))
            self.told_is(("shape", 0), bent(NEVER, (2, 1, 1), row))
        self.told_is(("shape", 0), ("settled", (("a", True),), ("yes", (EACH,))), SOME_A, TABLE)

    def test_ahead_of_all_else(self):
        self.told_is(("shape", 0), ("never", (), ((EACH, None),)))
        self.told_is(("shape", 0), ("settled", (None,), None))


class SettledTest(Checks):

    def test_open(self):
        for thing in STRANGE + (["yes", (EACH,)], ("open", (), ()), ("open", (a,), ()), ("Yes", (EACH,)), [("yes",)]):
            if thing != ("yes",):
                self.told_is(("open", 0), ("settled", (a,), thing), SOME_A)

    def test_as_the_small_checker_refuses(self):
        for row, paper, wanted in (((a,), ("yes",), (-1, "shape")), ((a,), ("no",), (-1, "shape")),
                                   ((a,), ("yes", (None,)), (-1, "shape")), ((a,), ("yes", [EACH]), (-1, "shape")),
                                   ((a,), ("yes", (EACH,), ()), (-1, "shape")), ((a,), ("yes", (NONE,)), (0, "end")),
                                   ((a,), ("no", (NONE, EACH)), (1, "end")), ((b,), ("yes", (EACH,)), (1, "begin")),
                                   ((), ("yes", ()), (0, "begin")), ((a,), ("no", (NONE,)), (1, "begin")),
                                   ((a,), ("yes", (EACH, stand(ALL_A))), (1, "on"))):
            told = ("settled", row, paper)
            self.assertEqual(ask(lets_settling, TWO, SOME_A, told), no_paper(wanted[0], wanted[1]), told)


class NeverTest(Checks):

    def test_begin(self):
        self.told_is(("begin", 0), ("never", (), ()))
        self.told_is(("begin", 0), ("never", (), CONS))
        self.told_is(("begin", 2), ("never", PROS, ()))
        self.told_is(("begin", 0), ("never", ((EACH, ()),), CONS))
        self.told_is(("begin", 2), ("never", PROS, ((NONE, ()),)))
        self.told_is(("begin", 2), ("never", PROS, ((SECOND, ()),)))
        self.told_is(("begin", 0), NEVER, ALL_A)
        self.told_is(("begin", 2), NEVER, SOME_A)

    def test_row(self):
        self.told_is(("row", 0), ("never", ((FIRST, (b,)), PROS[1]), CONS))
        self.told_is(("row", 1), ("never", (PROS[0], (SECOND, ())), CONS))
        self.told_is(("row", 2), ("never", PROS + ((NONE, ()),), CONS))
        self.told_is(("row", 2), ("never", PROS, ((FIRST, ()), CONS[1])))
        self.told_is(("row", 3), ("never", PROS, (CONS[0], (SECOND, (a,)))))
        self.told_is(("row", 4), ("never", PROS, CONS + ((EACH, ()),)))

    def test_next(self):
        self.told_is(("next", 0), ("never", PROS[:1], CONS))
        lost = ("next", A)
        self.told_is(("next", 2), ("never", PROS + ((stand(lost), (b, a)),), CONS))
        self.told_is(("next", 3), ("never", PROS, CONS[:1] + ((stand(lost), ()),) + CONS[1:]))
        self.told_is(("next", 1), ("never", PROS[:1] + ((stand(lost), (a, a)),) + PROS[1:], CONS))

    # Entry by entry: all that is asked of one goes ahead of all that is asked of the next.
    def test_entry_by_entry(self):
        lost = ("next", A)
        self.told_is(("next", 0), ("never", (PROS[0], (stand(lost), ())), CONS))
        self.told_is(("row", 0), ("never", ((FIRST, (b,)), (stand(lost), (b, a))), CONS))
        self.told_is(("next", 2), ("never", PROS, ((stand(lost), ()), (FIRST, ()))))
        self.told_is(("row", 2), ("never", PROS, ((stand(lost), (a, a)), (FIRST, ()))))

    def test_pros_ahead_of_cons(self):
        self.told_is(("row", 1), ("never", (PROS[0], (SECOND, ())), ()))
        self.told_is(("next", 0), ("never", PROS[:1], ((FIRST, ()),)))


class AgreeTest(Checks):

    def bend(self, maker, table, saying):
        stands = met(table, laid(saying, True))
        several = []
        for truth in (True, False):
            entries = []
            for one in stands:
                rows = [row for row in rows_up_to(table, 3) if plain_fits_stand(one, row) == truth]
                entries.append((one, rows[0] if rows else ()))
            turn = maker.pick(("none", "none", "drop", "row", "strange", "shuffle"))
            at = maker.random.randrange(len(entries))
            if turn == "drop":
                entries.pop(at)
            if turn == "row":
                entries[at] = (entries[at][0], maker.row(table, 3))
            if turn == "strange":
                entries[at:at] = [(maker.pick((EACH, NONE, maker.stand(2, 2))), maker.row(table, 2))]
            if turn == "shuffle":
                maker.random.shuffle(entries)
            several.append(tuple(entries))
        return ("never", several[0], several[1])

    def sayings(self, count):
        for seed in range(count):
            maker = Maker(seed)
            saying = maker.saying(5)
            yield maker, maker.pick((saying, ("always", ("some", saying)), ("some", ("always", saying)),
                                     ("always", ("either", saying, ("next", ("yes",))))))

    def test_against_the_plain_words(self):
        counts = {}
        for maker, saying in self.sayings(700):
            told = self.bend(maker, SMALL, saying)
            wanted = plain_lets(SMALL, saying, told)
            self.assertEqual(ask(lets_settling, SMALL, saying, told), wanted, (saying, told))
            key = True
            if wanted is not True:
                key = (wanted[1]["word"], wanted[1]["number"] >= len(told[1]))
            counts[key] = counts.get(key, 0) + 1
        self.assertEqual(len(counts), 7)
        self.assertGreater(min(counts.values()), 3, counts)

    # Whoever tells it: behind each row some going-on makes it fit, some not.
    def test_what_is_let_by_is_open_behind_every_row(self):
        let_by = 0
        for maker, saying in self.sayings(400):
            told = self.bend(maker, TWO, saying)
            if ask(lets_settling, TWO, saying, told) is True:
                let_by += 1
                for row in rows_up_to(TWO, 3):
                    self.assertEqual(plain_word(TWO, lambda whole: plain_holds(saying, whole, 0), row, 4), "open")
        self.assertGreater(let_by, 20)

    # With the verdict of another row it is let by just where that is the verdict here too.
    def test_settled_by_rows_of_whatever_length(self):
        for maker, saying in self.sayings(200):
            row = maker.row(SMALL, 4)
            paper = verdict(SMALL, saying, row)
            told = ask(lets_settling, SMALL, saying, ("settled", row, paper))
            self.assertEqual(told, no_ring("open", 0) if paper[0] == "open" else True, (saying, row))

    def test_told_here(self):
        for maker, saying in self.sayings(200):
            self.assertIs(ask(lets_settling, SMALL, saying, settled_by(SMALL, saying)), True)
