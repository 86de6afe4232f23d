import unittest

from surewatch.beside import compared
from surewatch.besidechecker import lets_beside, pairs_show
from surewatch.errors import NoBeside
from surewatch.going import met
from surewatch.stands import laid
from surewatch.tables import happenings_of
from tests.plain import (SMALL, STRANGE, TABLE, TWO, WIDE, Maker, ask, bent, paths_in, plain_ends, plain_gone,
                         plain_holds, plain_laid, plain_shows, rows_up_to, with_lists)
from tests.things import A, ALL_A, B, EACH, MANY, NONE, SOME_A, TILL_A, a, b, stand

# Of SOME_A and TILL_A.
THERE = ((stand(SOME_A), stand(TILL_A)), (EACH, EACH))
BACK = ((stand(TILL_A), stand(SOME_A)), (EACH, EACH))
ALIKE = ("alike", THERE, BACK)
# Of A and SOME_A.
INTO = ((stand(A), stand(SOME_A)), (EACH, EACH))
WITHIN = ("within", INTO, (b, a))
AROUND = ("around", INTO, (b, a))
# Of A and B.
PARTED = ("parted", (a,), (b, a))


def no_beside(word, number):
    return (NoBeside, {"word": word, "number": number})


# What 40 says, word by word: None, or the word and the number of what is met first.
def plain_fault(table, one, other, pairs):
    def some_pair(first, second):
        return any(plain_shows(first, pair[0]) and plain_shows(pair[1], second) for pair in pairs)
    if not some_pair(plain_laid(one, True), plain_laid(other, True)):
        return ("begin", 0)
    for number, (first, second) in enumerate(pairs):
        if plain_ends(first) and not plain_ends(second):
            return ("end", number)
    for number, (first, second) in enumerate(pairs):
        for happening in happenings_of(table):
            if not some_pair(plain_gone(first, happening), plain_gone(second, happening)):
                return ("next", number)
    return None


def plain_alone(one, other, row):
    return plain_holds(one, row, 0) and not plain_holds(other, row, 0)


# What 42 says of a thing of the right form.
def plain_lets(table, one, other, told):
    pairs = {"alike": [(one, other, told[1]), (other, one, told[2])], "within": [(one, other, told[1])],
             "around": [(other, one, told[1])], "parted": []}[told[0]]
    rows = {"alike": [], "within": [(other, one, told[2])], "around": [(one, other, told[2])],
            "parted": [(one, other, told[1]), (other, one, told[2])]}[told[0]]
    ahead = 0
    for first, second, shown in pairs:
        fault = plain_fault(table, first, second, shown)
        if fault:
            return no_beside(fault[0], ahead + fault[1])
        ahead += len(shown)
    for number, (first, second, row) in enumerate(rows):
        if not plain_alone(first, second, row):
            return no_beside("row", number)
    return True


class Checks(unittest.TestCase):

    def told_is(self, wanted, told, one=SOME_A, other=TILL_A, table=TWO):
        wanted = wanted if wanted is True else no_beside(wanted[0], wanted[1])
        self.assertEqual(ask(lets_beside, table, one, other, told), wanted, told)


class PairsTest(Checks):

    def test_shown(self):
        self.assertIs(ask(pairs_show, TWO, SOME_A, TILL_A, THERE), True)
        self.assertIs(ask(pairs_show, TWO, TILL_A, SOME_A, BACK), True)
        self.assertIs(ask(pairs_show, TWO, A, SOME_A, INTO), True)
        self.assertIs(ask(pairs_show, TWO, ("no",), SOME_A, ((NONE, NONE),)), True)
        self.assertIs(ask(pairs_show, TWO, SOME_A, ("yes",), ((EACH, EACH),)), True)

    def test_not_shown(self):
        for one, other, pairs in ((SOME_A, TILL_A, ()), (("no",), ("yes",), ()), (SOME_A, TILL_A, THERE[:1]),
                                  (SOME_A, TILL_A, THERE[1:]), (SOME_A, TILL_A, BACK), (SOME_A, A, INTO),
                                  (SOME_A, ALL_A, ((stand(SOME_A), stand(ALL_A)), (EACH, EACH))),
                                  (ALL_A, SOME_A, ((stand(ALL_A), stand(SOME_A)), (EACH, EACH)))):
            self.assertIs(ask(pairs_show, TWO, one, other, pairs), False, (one, other, pairs))

    # That a stand shows another one is enough; it need not be alike.
    def test_pairs_that_show_but_are_not_alike(self):
        both = ("both", SOME_A, ALL_A)
        self.assertIs(ask(pairs_show, TWO, both, TILL_A, THERE), True)
        self.assertIs(ask(pairs_show, TWO, SOME_A, ("either", TILL_A, ALL_A), THERE), True)
        wide = ((stand(SOME_A), stand(TILL_A, ALL_A)), (EACH, EACH))
        self.assertIs(ask(pairs_show, TWO, SOME_A, TILL_A, wide), False)

    def test_all_the_tables_happenings(self):
        less = ("always", ("now", ("less", 1)))
        pairs = ((EACH, stand(less)),)
        self.assertIs(ask(pairs_show, (("a", 0),), ("yes",), less, pairs), True)
        self.assertIs(ask(pairs_show, (("a", 1),), ("yes",), less, pairs), False)

    def test_stands_need_not_be_trimmed(self):
        void = ((A, True), (A, False))
        first = (((SOME_A, True), (SOME_A, True)), void, ((A, True), (SOME_A, True)))
        self.assertIs(ask(pairs_show, TWO, SOME_A, TILL_A, ((first, stand(TILL_A)), (EACH, (void, ())))), True)

    def test_against_the_plain_words(self):
        counts = {}
        for seed in range(500):
            maker = Maker(seed)
            one, other = maker.saying(5), maker.saying(5)
            stands = [EACH, NONE, laid(one, True), laid(other, True)]
            stands += met(SMALL, laid(one, True)) + met(SMALL, laid(other, True))
            pairs = tuple((maker.pick(stands), maker.pick(stands)) for _ in range(maker.random.randint(0, 5)))
            pairs += ((laid(one, True), laid(other, True)),) if maker.pick((True, True, False)) else ()
            fault = plain_fault(SMALL, one, other, pairs)
            self.assertIs(ask(pairs_show, SMALL, one, other, pairs), fault is None, (one, other, pairs))
            word = fault and fault[0]
            counts[word] = counts.get(word, 0) + 1
        self.assertEqual(len(counts), 4)
        self.assertGreater(min(counts.values()), 20, counts)

    # Whoever wrote them: each row that fits the one fits the other.
    def test_what_is_shown_is_so(self):
        shown = 0
        for seed in range(400):
            maker = Maker(seed)
            one, other = maker.saying(4), maker.saying(4)
            pairs = tuple((first, second) for first in met(TWO, laid(one, True))
                          for second in met(TWO, laid(other, True)) if plain_ends(second) or not plain_ends(first))
            if ask(pairs_show, TWO, one, other, pairs):
                shown += 1
                self.assertFalse(any(plain_alone(one, other, row) for row in rows_up_to(TWO, 5)), (one, other))
        self.assertGreater(shown, 40)


class LetByTest(Checks):

    def test_let_by(self):
        self.told_is(True, ALIKE)
        self.told_is(True, WITHIN, A, SOME_A)
        self.told_is(True, AROUND, SOME_A, A)
        self.told_is(True, PARTED, A, B)

    def test_rows_need_not_be_the_shortest(self):
        self.told_is(True, ("within", INTO, (b,) * 2000 + (a,)), A, SOME_A)
        self.told_is(True, ("around", INTO, (b, a, b, b)), SOME_A, A)
        self.told_is(True, ("parted", (a, b, a), (b,) * 2000), A, B)

    def test_the_row_without_happenings(self):
        self.told_is(True, ("parted", (), (b,)), ALL_A, B)
        self.told_is(True, ("parted", (b,), ()), B, ALL_A)
        self.told_is(True, ("within", ((NONE, NONE),), ()), ("no",), ALL_A)

    def test_more_pairs_than_are_needed(self):
        more = THERE + THERE + ((NONE, NONE), (EACH, EACH))
        self.told_is(True, ("alike", more, BACK))
        self.told_is(True, ("alike", THERE, BACK + BACK))

    def test_more_than_three_hundred_stands_are_refused_nowhere(self):
        self.told_is(("next", 0), ("alike", ((laid(MANY, True), laid(MANY, True)),), ()), MANY, MANY, WIDE)
        self.told_is(True, ("around", ((NONE, NONE),), ()), MANY, ("no",), WIDE)
        self.told_is(True, ("parted", (), (a, b)), MANY, ("now", ("any",)), WIDE)
        self.told_is(True, ("within", ((EACH, EACH), (laid(MANY, True), EACH)), (a, b)), MANY, ("yes",), WIDE)


class ShapeTest(Checks):

    def test_strange_things(self):
        for thing in STRANGE + ("alike", "within", "around", "parted", ("alike",), ("parted", ())):
            self.told_is(("shape", 0), thing)
            self.told_is(("shape", 0), (thing, THERE, BACK) if thing != "alike" else thing)
            self.told_is(("shape", 0), ("alike", THERE, thing) if thing != () else [])
            self.told_is(("shape", 0), ("within", thing, ()) if thing != () else [])
            self.told_is(("shape", 0), ("parted", (), thing) if thing != () else [])

    def test_each_place_bent(self):
        for told, one, other in ((ALIKE, SOME_A, TILL_A), (WITHIN, A, SOME_A), (AROUND, SOME_A, A), (PARTED, A, B)):
            for path in paths_in(told):
                for thing in (None, -1, [], "ninesigns"):
                    self.told_is(("shape", 0), bent(told, path, thing), one, other)

    def test_lists_in_the_place_of_tuples(self):
        for told in (ALIKE, WITHIN, PARTED):
            for bad in with_lists(told):
                self.told_is(("shape", 0), bad)

    def test_lengths(self):
        for told in (ALIKE[:2], ALIKE + ((),), WITHIN[:2], PARTED + ((),), ("alike", THERE + ((EACH,),), BACK),
                     ("alike", THERE + ((EACH, EACH, EACH),), BACK), ("alike", THERE + ((),), BACK)):
            self.told_is(("shape", 0), told)

    def test_the_parts_of_other_forms(self):
        for told in (("alike", THERE, (b, a)), ("within", THERE, BACK), ("around", (b, a), THERE),
                     ("parted", THERE, (a,)), ("parted", (a,), THERE), ("Alike", THERE, BACK), ("", THERE, BACK)):
            self.told_is(("shape", 0), told)

    def test_rows_of_another_table(self):
        for row in ((("c", 0),), (("a", 1),), (("a", False),), (("a", 0), "b"), ((a,),), [a]):
            self.told_is(("shape", 0), ("within", INTO, row), A, SOME_A)
            self.told_is(("shape", 0), ("around", INTO, row), SOME_A, A)
            self.told_is(("shape", 0), ("parted", row, (b,)), A, B)
            self.told_is(("shape", 0), ("parted", (a,), row), A, B)
        self.told_is(("shape", 0), ("parted", (("a", True),), (b,)), A, B, TABLE)

    # Things that are equal to Python, a right one ahead of the other: True is no 1.
    def test_truths_are_no_numbers(self):
        soon = ("within", 1, A)
        for wrong in (((("within", True, A), True),), ((soon, 1),), ((("now", ("same", False)), True),)):
            right = ((("now", ("same", 0)), True),), ((soon, True),)
            for told in (("alike", THERE + ((right[0], right[1]), ((wrong,), EACH)), BACK),
                         ("alike", THERE, BACK + ((right[1], right[0]), (EACH, (wrong,))))):
                self.told_is(("shape", 0), told)

    def test_ahead_of_all_else(self):
        self.told_is(("shape", 0), ("alike", (), ((EACH, None),)))
        self.told_is(("shape", 0), ("within", (), None))
        self.told_is(("shape", 0), ("parted", (), None))


class FaultsTest(Checks):

    def test_begin(self):
        self.told_is(("begin", 0), ("alike", (), ()))
        self.told_is(("begin", 0), ("alike", THERE[1:], BACK))
        self.told_is(("begin", 2), ("alike", THERE, ()))
        self.told_is(("begin", 2), ("alike", THERE, BACK[1:]))
        self.told_is(("begin", 3), ("alike", THERE + THERE[:1], THERE))
        self.told_is(("begin", 0), ("within", (), (b, a)), A, SOME_A)
        self.told_is(("begin", 0), ("around", (), (b, a)), SOME_A, A)
        self.told_is(("begin", 0), ("within", INTO, (b, a)), SOME_A, A)
        self.told_is(("begin", 0), ("around", INTO, (b, a)), A, SOME_A)

    def test_end(self):
        odd = ((EACH, stand(A)),)
        self.told_is(("end", 2), ("alike", THERE + odd, BACK))
        self.told_is(("end", 2), ("alike", THERE + odd + odd, BACK + odd))
        self.told_is(("end", 4), ("alike", THERE, BACK + odd + odd))
        self.told_is(("end", 0), ("around", odd + INTO, (b, a)), SOME_A, A)
        self.told_is(("end", 0), ("alike", ((stand(ALL_A), stand(SOME_A)),), ()), ALL_A, SOME_A)

    def test_next(self):
        self.told_is(("next", 0), ("alike", THERE[:1], BACK))
        self.told_is(("next", 2), ("alike", THERE, BACK[:1]))
        lost = ((stand(("next", ALL_A)), stand(("next", SOME_A))),)
        self.told_is(("next", 2), ("alike", THERE + lost, BACK))
        self.told_is(("next", 1), ("within", INTO[:1] + lost + INTO[1:], (b, a)), A, SOME_A)
        self.told_is(("next", 5), ("alike", THERE, BACK + BACK[:1] + lost))

    def test_ends_of_all_pairs_ahead_of_nexts(self):
        odd = ((EACH, stand(A)),)
        self.told_is(("end", 1), ("alike", THERE[:1] + odd, BACK))
        self.told_is(("end", 3), ("alike", THERE, BACK[:1] + odd))

    def test_all_of_there_ahead_of_all_of_back(self):
        odd = ((EACH, stand(A)),)
        self.told_is(("next", 0), ("alike", THERE[:1], ()))
        self.told_is(("next", 0), ("alike", THERE[:1], odd))
        self.told_is(("end", 2), ("alike", THERE + odd, ()))

    def test_rows(self):
        for row, wanted in (((), ("row", 0)), ((b,), ("row", 0)), ((a,), ("row", 0)), ((b, a), True)):
            self.told_is(wanted, ("within", INTO, row), A, SOME_A)
            self.told_is(wanted, ("around", INTO, row), SOME_A, A)
        self.told_is(("row", 0), ("parted", (b,), (a,)), A, B)
        self.told_is(("row", 0), ("parted", (), (b,)), A, B)
        self.told_is(("row", 1), ("parted", (a,), (a,)), A, B)
        self.told_is(("row", 1), ("parted", (a, b), ()), A, B)
        self.told_is(("row", 1), ("parted", (), (a,)), ALL_A, SOME_A)

    def test_pairs_ahead_of_rows(self):
        self.told_is(("next", 0), ("within", INTO[:1], ()), A, SOME_A)
        self.told_is(("begin", 0), ("around", (), ()), SOME_A, A)


class AgreeTest(Checks):

    # What is told, or another word of it, perhaps bent somewhat, but of one of the four forms.
    def bend(self, maker, table, one, other, told):
        def bend_pairs(pairs):
            pairs = list(pairs)
            turn = maker.pick(("none", "drop", "swap", "turn", "strange", "shuffle"))
            at = maker.random.randrange(len(pairs))
            if turn == "drop":
                pairs.pop(at)
            if turn == "swap":
                pairs[at] = (pairs[at][0], maker.pick(pairs)[1])
            if turn == "turn":
                pairs[at] = (pairs[at][1], pairs[at][0])
            if turn == "strange":
                pairs[at:at] = [(maker.pick((EACH, NONE, maker.stand(2, 2))), maker.pick((EACH, NONE)))]
            if turn == "shuffle":
                maker.random.shuffle(pairs)
            return tuple(pairs)
        there = tuple((first, second) for first in met(table, laid(one, True))
                      for second in met(table, laid(other, True)) if plain_ends(second) or not plain_ends(first))
        back = tuple((second, first) for first, second in there)
        word = maker.pick((told[0], "alike", "within", "around"))
        if word == told[0]:
            parts = told[1:]
        else:
            row = maker.row(table, 3)
            parts = {"alike": (there, back), "within": (there, row), "around": (back, row)}[word]
        if word == "parted":
            return (word,) + tuple(maker.pick((row, maker.row(table, 3))) for row in parts)
        if word == "alike":
            return (word,) + tuple(bend_pairs(pairs or THERE) for pairs in parts)
        return (word, bend_pairs(parts[0] or THERE), maker.pick((parts[1], parts[1], maker.row(table, 2))))

    def test_against_the_plain_words(self):
        counts = {}
        for seed in range(600):
            maker = Maker(seed)
            one, other = maker.saying(5), maker.saying(5)
            other = maker.pick((other, ("either", one, other), ("both", other, one), ("not", ("not", one))))
            told = self.bend(maker, SMALL, one, other, compared(SMALL, one, other))
            if len(told[1]) > 40:
                continue
            wanted = plain_lets(SMALL, one, other, told)
            self.assertEqual(ask(lets_beside, SMALL, one, other, told), wanted, (seed, one, other, told))
            key = (told[0], wanted if wanted is True else wanted[1]["word"])
            counts[key] = counts.get(key, 0) + 1
        for word in ("alike", "within", "around"):
            for fault in (True, "begin", "end", "next"):
                self.assertIn((word, fault), counts)
        for key in (("within", "row"), ("around", "row"), ("parted", "row"), ("parted", True)):
            self.assertIn(key, counts)

    # Whoever tells it: what is let by is so, and nothing else is.
    def test_what_is_let_by_is_right(self):
        let_by = 0
        for seed in range(300):
            maker = Maker(seed)
            one, other = maker.saying(4), maker.saying(4)
            other = maker.pick((other, ("either", one, other), ("both", other, one), ("both", one, one)))
            right = compared(TWO, one, other)
            told = self.bend(maker, TWO, one, other, right)
            if ask(lets_beside, TWO, one, other, told) is True:
                let_by += 1
                self.assertEqual(told[0], right[0], (one, other, told))
                alone = [any(plain_alone(first, second, row) for row in rows_up_to(TWO, 5))
                         for first, second in ((one, other), (other, one))]
                if told[0] in ("alike", "within"):
                    self.assertFalse(alone[0])
                if told[0] in ("alike", "around"):
                    self.assertFalse(alone[1])
        self.assertGreater(let_by, 50)
