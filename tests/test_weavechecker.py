import itertools
import unittest

from surewatch.going import met
from surewatch.stands import laid
from surewatch.tables import happenings_of
from surewatch.verdicts import verdict
from surewatch.weavechecker import lets_woven, woven_row
from surewatch.weaving import woven
from tests.plain import (SMALL, STRANGE, TWO, WIDE, Maker, ask, bent, orders_of, part_at, paths_in, plain_ends,
                         plain_gone, plain_holds, plain_laid, plain_shows, plain_verdict, plain_woven, with_lists)
from tests.things import A, ALL_A, B, EACH, MANY, NONE, SOME_A, a, b, no_paper, stand

# Two hands, one round: of SOME_A it is sure that it fits, of ALL_A that it does not.
ROUNDS = (((a,), (b,)),)
S = stand(SOME_A)
L = stand(ALL_A)
YES = ("yes", ((((0, 0), (S,)), ((0, 1), (S,)), ((1, 0), (EACH,)), ((1, 1), (EACH,))),), (EACH,))
NO = ("no", ((((0, 0), (L,)), ((0, 1), (NONE,)), ((1, 0), (L,)), ((1, 1), (NONE,))),), (NONE,))
# Whether A fits hangs on the order.
OPEN = ("open", (((0, 1),), ()), (((1, 0),), (a,)))


def plain_positions(rows):
    return list(itertools.product(*[range(len(row) + 1) for row in rows]))


# What 52 and 53 say, word by word, of a thing of the right form.
def plain_lets(table, saying, rounds, told):
    if told[0] == "open":
        for place in (0, 1):
            if told[place + 1][0] not in itertools.product(*[orders_of(rows) for rows in rounds]):
                return no_paper(place, "orders")
        for place in (0, 1):
            orders, row = told[place + 1]
            if plain_holds(saying, plain_woven(rounds, orders) + row, 0) != (place == 0):
                return no_paper(place, "row")
        return True
    yes, places, last = told[0] == "yes", [dict(place) for place in told[1]], told[2]

    def held(one, stands):
        return any(plain_shows(other, one) if yes else plain_shows(one, other) for other in stands)
    ahead = [plain_laid(saying, True)]
    for k in range(len(rounds) + 1):
        begin = places[k][(0,) * len(rounds[k])] if k < len(rounds) else last
        if not all(held(one, begin) for one in ahead):
            return no_paper(k, "begin")
        ahead = places[k][tuple(len(row) for row in rounds[k])] if k < len(rounds) else []
    n = 0
    for rows, place in zip(rounds, places):
        for positions in plain_positions(rows):
            for hand, row in enumerate(rows):
                if positions[hand] < len(row):
                    later = tuple(k + (number == hand) for number, k in enumerate(positions))
                    if not all(held(plain_gone(one, row[positions[hand]]), place[later]) for one in place[positions]):
                        return no_paper(n, "step")
            n += 1
    for n, one in enumerate(last):
        if plain_ends(one) != yes:
            return no_paper(n, "ends")
    for n, one in enumerate(last):
        if not all(held(plain_gone(one, happening), last) for happening in happenings_of(table)):
            return no_paper(n, "closed")
    return True


class WovenRowTest(unittest.TestCase):

    def test_rows(self):
        c = ("a", 1)
        for rounds, orders, row in (
                ((), (), ()), ((((),),), ((),), ()), ((((a, c),),), ((0, 0),), (a, c)),
                ((((a, c), (b,)),), ((0, 1, 0),), (a, b, c)), ((((a, c), (b,)),), ((1, 0, 0),), (b, a, c)),
                ((((a,), (b,)), ((c,), ())), ((1, 0), (0,)), (b, a, c)),
                ((((), ()), ((a,), (b,)), ((), ())), ((), (0, 1), ()), (a, b)),
                ((((a,), (b,), (c,), (a, a)),), ((3, 2, 3, 1, 0),), (a, c, a, b, a))):
            told = ask(woven_row, rounds, orders)
            self.assertEqual((type(told), told), (tuple, row))
            lists = tuple(tuple(list(part) for part in rows) for rows in rounds)
            self.assertEqual(ask(woven_row, lists, orders), row)

    def test_all_orders(self):
        for seed in range(40):
            maker = Maker(seed)
            rounds = maker.rounds(SMALL, 3, 3, 4)
            for orders in itertools.product(*[orders_of(rows) for rows in rounds]):
                self.assertEqual(ask(woven_row, rounds, orders), plain_woven(rounds, orders))


class Checks(unittest.TestCase):

    def told_is(self, wanted, told, saying=SOME_A, rounds=ROUNDS, table=TWO):
        wanted = wanted if wanted is True else no_paper(wanted[0], wanted[1])
        self.assertEqual(ask(lets_woven, table, saying, rounds, told), wanted, told)


class LetByTest(Checks):

    def test_let_by(self):
        self.told_is(True, YES)
        self.told_is(True, NO, ALL_A)
        self.told_is(True, OPEN, A)

    def test_rows_as_lists(self):
        rounds = (([a], [b]),)
        self.told_is(True, YES, SOME_A, rounds)
        self.told_is(True, NO, ALL_A, rounds)
        self.told_is(True, OPEN, A, rounds)

    def test_no_rounds(self):
        self.told_is(True, ("yes", (), (EACH,)), ("yes",), ())
        self.told_is(True, ("no", (), (NONE,)), ("no",), ())
        self.told_is(True, ("open", ((), (a,)), ((), ())), SOME_A, ())
        self.told_is((0, "begin"), ("yes", (), (EACH,)), SOME_A, ())
        self.told_is((0, "ends"), ("yes", (), (S,)), SOME_A, ())

    def test_rounds_without_happenings(self):
        for hands in (1, 2, 4):
            rounds = (((),) * hands,) * 4
            place = (((0,) * hands, (EACH,)),)
            self.told_is(True, ("yes", (place,) * 4, (EACH,)), ("yes",), rounds)
            self.told_is(True, ("open", (((),) * 4, (a,)), (((),) * 4, ())), SOME_A, rounds)

    def test_open_with_rows_of_any_length(self):
        self.told_is(True, ("open", (((0, 1),), (b,) * 2000), (((1, 0),), (a,) * 2000)), A)

    # Yes by one order and no by another one is open; which rows stand behind makes no odds.
    def test_yes_and_no_beside_one_another(self):
        self.told_is(True, ("open", (((0, 1),), ()), (((1, 0),), ())), A)

    def test_stands_that_show_but_are_not_alike(self):
        either = ("either", SOME_A, ("some", B))
        self.told_is(True, YES, either)
        both = ("both", ALL_A, ("next", SOME_A))
        self.told_is(True, NO, both)

    def test_more_stands_than_are_needed(self):
        self.told_is(True, bent(YES, (2,), (EACH, EACH)))
        self.told_is(True, bent(YES, (1, 0, 3, 1), (EACH, EACH)))
        self.told_is(True, bent(NO, (2,), (NONE, NONE)), ALL_A)

    def test_stands_need_not_be_trimmed(self):
        void = ((A, True), (A, False))
        self.told_is(True, bent(YES, (2,), ((void, (), ((A, True),)),)))
        self.told_is(True, bent(NO, (2,), ((void,),)), ALL_A)

    def test_more_than_three_hundred_stands_are_refused_nowhere(self):
        rounds = (((("a", 1),), (("b", 2),)),)
        self.told_is(True, ("open", (((1, 0),), ()), (((0, 1),), ())), MANY, rounds, WIDE)
        place = tuple((positions, (EACH,)) for positions in ((0, 0), (0, 1), (1, 0), (1, 1)))
        self.told_is(True, ("yes", (place,), (EACH,)), ("either", ("yes",), MANY), rounds, WIDE)
        self.told_is((0, "begin"), ("yes", (place,), (EACH,)), MANY, rounds, WIDE)


class ShapeTest(Checks):

    def test_strange_things(self):
        for thing in STRANGE + ("open", "no", ("yes", None), ("open",)):
            self.told_is((0, "shape"), thing)
            self.told_is((0, "shape"), (thing,) + YES[1:] if thing not in ("yes", "no") else None)
            self.told_is((0, "shape"), ("yes", thing, (EACH,)))
            self.told_is((0, "shape"), ("yes", YES[1], thing if thing != ((),) else ()))
            self.told_is((0, "shape"), ("open", thing, OPEN[2]))
            self.told_is((0, "shape"), ("open", OPEN[1], thing))
            self.told_is((0, "shape"), ("open", (((0, 1),), thing) if thing != () else None, OPEN[2]))

    def test_each_place_bent(self):
        for told in (YES, NO):
            for path in paths_in(told):
                for thing in (None, -1, [], "ninesigns"):
                    self.told_is((0, "shape"), bent(told, path, thing))

    def test_lists_in_the_place_of_tuples(self):
        for bad in with_lists(YES):
            self.told_is((0, "shape"), bad)
        for path in ((), (1,), (2,), (1, 1), (2, 1), (2, 1, 0)):
            self.told_is((0, "shape"), bent(OPEN, path, list(part_at(OPEN, path))), A)

    def test_lengths(self):
        for told in (YES[:2], YES + ((),), OPEN[:2], OPEN + (OPEN[1],), ("yes", (), (EACH,)),
                     ("yes", YES[1] * 2, (EACH,)), ("yes", YES[1], ()), ("open", OPEN[1] + ((),), OPEN[2]),
                     ("open", OPEN[1], OPEN[2][:1])):
            self.told_is((0, "shape"), told)
        self.told_is((0, "shape"), ("yes", (YES[1][0],), (EACH,)), SOME_A, ())

    def test_all_positions_each_once_rising(self):
        place = YES[1][0]
        for bad in (place[:3], place[1:], place + place[3:], place[::-1], place[:1] + place[2:0:-1] + place[3:], (),
                    (place[0],) + place, place[:3] + (((1, 2), (EACH,)),), (((0,), (S,)),) + place[1:],
                    (((0, 0, 0), (S,)),) + place[1:], (((0, 0), ()),) + place[1:], (((0, 0),),) + place[1:],
                    (((0, 0), (S,), ()),) + place[1:]):
            self.told_is((0, "shape"), ("yes", (bad,), (EACH,)))

    def test_truths_are_no_numbers(self):
        self.told_is((0, "shape"), bent(YES, (1, 0, 3, 0), (1, True)))
        self.told_is((0, "shape"), bent(YES, (1, 0, 0, 0), (False, 0)))
        self.told_is((0, "shape"), bent(YES, (1, 0, 0, 1, 0, 0, 0, 1), 1))

    def test_rows_of_another_table(self):
        for row in ((("c", 0),), (("a", 1),), (("a", False),), [a], a):
            self.told_is((0, "shape"), ("open", (((0, 1),), row), OPEN[2]), A)
            self.told_is((0, "shape"), ("open", OPEN[1], (((1, 0),), row)), A)

    def test_ahead_of_all_else(self):
        self.told_is((0, "shape"), ("yes", YES[1], (NONE, None)))
        self.told_is((0, "shape"), ("open", (None, ()), (None, None)))


class OpenTest(Checks):

    def test_orders_that_are_none_of_the_rounds(self):
        for thing in STRANGE + (((0,),), ((0, 1, 0),), ((0, 0),), ((1, 1),), ((0, 2),), ((0, -1),), ((0, True),),
                                ((False, 1),), ([0, 1],), [(0, 1)], ((0, 1), ()), ((0, 1), (0, 1)), (0, 1),
                                (("a", "b"),), ((a, b),), (((0,), (1,)),)):
            self.told_is((0, "orders"), ("open", (thing, ()), OPEN[2]), A)
            self.told_is((1, "orders"), ("open", OPEN[1], (thing, (a,))), A)
            self.told_is((0, "orders"), ("open", (thing, ()), (thing, ())), A)
        self.told_is((0, "orders"), ("open", (((0, 1),), ()), ((), ())), A, ())
        self.told_is((1, "orders"), ("open", ((), (a,)), (((),), ())), A, ())

    def test_rows(self):
        self.told_is((0, "row"), ("open", (((1, 0),), ()), OPEN[2]), A)
        self.told_is((1, "row"), ("open", OPEN[1], (((0, 1),), (b,))), A)
        self.told_is((0, "row"), ("open", (((1, 0),), ()), (((0, 1),), ())), A)
        self.told_is((1, "row"), ("open", (((0, 1),), ()), (((0, 1),), ())))
        late = ("next", ("next", ("next", A)))
        self.told_is(True, ("open", (((0, 1),), (b, a)), (((0, 1),), (a, b))), late)
        self.told_is((0, "row"), ("open", (((0, 1),), (a, b)), (((0, 1),), (a, b))), late)

    def test_orders_of_both_ahead_of_rows(self):
        self.told_is((1, "orders"), ("open", (((1, 0),), ()), (((0, 0),), ())), A)


class SureTest(Checks):

    ROUND = ((a,), ())
    TWICE = (ROUND, ROUND)
    ONCE = (((0, 0), (S,)), ((1, 0), (EACH,)))
    AGAIN = (((0, 0), (EACH,)), ((1, 0), (EACH,)))
    GOOD = ("yes", (ONCE, AGAIN), (EACH,))

    def test_begin(self):
        self.told_is(True, self.GOOD, SOME_A, self.TWICE)
        self.told_is((0, "begin"), bent(YES, (1, 0, 0, 1), (EACH,)))
        self.told_is((0, "begin"), YES, A)
        self.told_is((0, "begin"), bent(NO, (1, 0, 0, 1), (NONE,)), ALL_A)
        self.told_is((1, "begin"), bent(self.GOOD, (1, 0, 1, 1), (S,)), SOME_A, self.TWICE)
        self.told_is((1, "begin"), bent(self.GOOD, (1, 0, 1, 1), (EACH, S)), SOME_A, self.TWICE)
        self.told_is((2, "begin"), bent(self.GOOD, (1, 1, 1, 1), (S, EACH)), SOME_A, self.TWICE)
        self.told_is((1, "begin"), bent(YES, (1, 0, 3, 1), (S,)))
        self.told_is((1, "begin"), bent(NO, (1, 0, 3, 1), (L,)), ALL_A)

    def test_step(self):
        self.told_is((1, "step"), bent(YES, (1, 0, 1, 1), (S, stand(("next", A)))))
        self.told_is((0, "step"), bent(YES, (1, 0, 1, 1), (stand(("next", A)),)))
        self.told_is((0, "step"), bent(YES, (1, 0, 0, 1), (S, stand(B))))
        self.told_is((2, "step"), bent(NO, (1, 0, 2, 1), (L, S)), ALL_A)
        self.told_is((2, "step"), bent(self.GOOD, (1, 1, 0, 1), (EACH, stand(("next", A)))), SOME_A, self.TWICE)
        self.told_is((0, "step"), bent(bent(YES, (1, 0, 0, 1), (S, stand(B))), (1, 0, 1, 1), (S, stand(B))))

    def test_ends(self):
        self.told_is((1, "ends"), bent(YES, (2,), (EACH, S)))
        self.told_is((0, "ends"), bent(YES, (2,), (S, EACH, S)))
        self.told_is((1, "ends"), bent(NO, (2,), (NONE, EACH)), ALL_A)
        self.told_is((0, "ends"), ("no",) + YES[1:])
        self.told_is((0, "ends"), ("yes",) + NO[1:], ALL_A)

    def test_closed(self):
        self.told_is((1, "closed"), bent(YES, (2,), (EACH, L, L)))
        self.told_is((0, "closed"), bent(NO, (2,), (S, NONE)), ALL_A)

    def test_the_order_of_words(self):
        bad = bent(bent(YES, (1, 0, 3, 1), (stand(B), EACH)), (2,), (EACH, S))
        self.told_is((1, "begin"), bad)
        self.told_is((1, "begin"), bent(bad, (1, 0, 0, 1), (S, stand(B))))
        self.told_is((0, "step"), bent(bent(YES, (2,), (EACH, S)), (1, 0, 0, 1), (S, stand(B))))
        self.told_is((0, "step"), bent(bent(YES, (2,), (L, EACH)), (1, 0, 0, 1), (S, stand(B))))
        self.told_is((2, "ends"), bent(YES, (2,), (EACH, L, S)))

    def test_another_rounds_paper(self):
        self.told_is((0, "step"), YES, SOME_A, (((b,), (b,)),))
        self.told_is((0, "shape"), YES, SOME_A, (((a, b), ()),))


class AgreeTest(Checks):

    # A paper for yes or no that tells all the stands that are come to, whatever the verdict is, somewhat bent; or one
    # of open.
    def paper(self, maker, table, saying, rounds):
        word = maker.pick(("yes", "yes", "no", "no", "open"))
        if word == "open":
            def part():
                orders = tuple(maker.pick(orders_of(rows)) for rows in rounds)
                if rounds and maker.pick((True, False, False)):
                    orders = bent(orders, (0,), tuple(maker.random.randrange(3) for _ in range(maker.pick((1, 2)))))
                return (orders, maker.row(table, 2))
            return (word, part(), part())
        told = woven(table, saying, rounds)
        stands = met(table, laid(saying, True))
        if told[0] == "open":
            ending = maker.pick((True, False))
            stands = [one for one in stands if plain_ends(one) == (word == "yes")] or [EACH if word == "yes" else NONE]
            few = tuple(stands) if ending else (maker.pick(stands),)
            places = tuple(tuple((positions, few) for positions in plain_positions(rows)) for rows in rounds)
            told = (word, places, few)
        word = maker.pick((told[0], told[0], word))
        told = (word,) + told[1:]
        for _ in range(maker.random.randint(0, 2)):
            told = self.bend(maker, told, stands)
        return told

    def bend(self, maker, told, stands):
        paths = [(1, k, n, 1) for k, place in enumerate(told[1]) for n in range(len(place))] + [(2,)]
        path = maker.pick(paths)
        part = part_at(told, path)
        turn = maker.pick(("drop", "more", "other", "shuffle"))
        strange = maker.pick(stands + [EACH, NONE, maker.stand(2, 2)])
        if turn == "drop" and len(part) > 1:
            part = part[1:]
        if turn == "more":
            part = part + (strange,)
        if turn == "other":
            part = (strange,) + part[1:]
        if turn == "shuffle":
            part = part[::-1]
        return bent(told, path, part)

    # And what is let by is, whoever wrote it, the verdict by all orders gone through one by one.
    def test_against_the_plain_words(self):
        counts = {}
        for seed in range(900):
            maker = Maker(seed)
            saying = maker.saying(6)
            rounds = maker.rounds(SMALL, 2, 2, 3)
            told = self.paper(maker, SMALL, saying, rounds)
            wanted = plain_lets(SMALL, saying, rounds, told)
            self.assertEqual(ask(lets_woven, SMALL, saying, rounds, told), wanted, (seed, saying, rounds, told))
            key = (told[0], wanted if wanted is True else wanted[1]["word"])
            counts[key] = counts.get(key, 0) + 1
            if wanted is True:
                word = plain_verdict(rounds, lambda row: verdict(SMALL, saying, row)[0])
                self.assertEqual(told[0], word, (saying, rounds))
        for word in ("yes", "no"):
            for fault in (True, "begin", "step", "ends", "closed"):
                self.assertIn((word, fault), counts)
        for fault in (True, "orders", "row"):
            self.assertIn(("open", fault), counts)
