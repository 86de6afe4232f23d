import unittest

from surewatch.errors import NoHappening, NoName, NoPaper, TooMany
from surewatch.reading import read_saying
from surewatch.stands import is_stand
from surewatch.tables import happenings_of
from surewatch.verdicts import verdict
from surewatch.weavechecker import lets_woven
from surewatch.weaving import Weave, woven
from tests.plain import (ONE_MORE, SMALL, STRANGE, TABLE, THREE_HUNDRED, TWO, WIDE, Maker, ask, bent, is_trimmed,
                         plain_holds, plain_verdict, plain_word)
from tests.things import a, b

MANY = (TooMany, {"word": "stands"})


class Telling(unittest.TestCase):

    def looked_at(self, told, saying, rounds, table):
        self.assertEqual((type(told), len(told)), (tuple, 3))
        self.assertIs(ask(lets_woven, table, saying, rounds, told), True, (saying, rounds))
        if told[0] != "open":
            for stands in [entry[1] for place in told[1] for entry in place] + [told[2]]:
                self.assertIs(type(stands), tuple)
                self.assertTrue(all(is_stand(stand) and is_trimmed(stand) for stand in stands))
        return told

    def told(self, saying, rounds, table=TWO):
        told = self.looked_at(ask(woven, table, saying, rounds), saying, rounds, table)
        lists = tuple(tuple(list(row) for row in rows) for rows in rounds)
        self.assertEqual(self.looked_at(ask(woven, table, saying, lists), saying, lists, table)[0], told[0])
        return told


class WovenTest(Telling):

    def words(self, text, *several):
        saying = read_saying(text)
        for rounds, word in several:
            self.assertEqual(self.told(saying, rounds)[0], word, (text, rounds))

    def test_no_rounds(self):
        for text, word in (("yes", "yes"), ("no", "no"), ("some now name a", "open"), ("always now any", "yes")):
            self.words(text, ((), word))

    def test_rounds_without_happenings(self):
        for hands in (1, 2, 3, 4):
            for count in (1, 2, 4):
                rounds = (((),) * hands,) * count
                for text, word in (("yes", "yes"), ("no", "no"), ("some now name a", "open")):
                    self.words(text, (rounds, word))

    def test_one_hand(self):
        self.words("both now name a next now name b", ((((a, b),),), "yes"), ((((b, a),),), "no"), ((((a,),),), "open"),
                   ((((a,),), ((b,),)), "yes"), ((((a,),), ((),), ((a,),)), "no"))

    def test_orders_of_hands(self):
        self.words("now name a", ((((a,), (b,)),), "open"), ((((a,), (a,)),), "yes"), ((((b,), (b, a)),), "no"),
                   ((((a,), ()), ((), (b,))), "yes"), ((((), (b,)), ((a,), ())), "no"))
        self.words("some both now name a next now name b", ((((a,), (b,)),), "open"), ((((a, b),), ((a, a),)), "yes"),
                   ((((a, a), (b,)), ((b,), ())), "yes"))
        self.words("always now name a", ((((a,), (b,), (a, a)),), "no"), ((((a,), (), (a, a)),), "open"))

    # On one order the verdict is yes, on another one no.
    def test_yes_and_no_beside_one_another(self):
        told = self.told(read_saying("now name a"), (((a,), (b,)),))
        self.assertEqual(told[0], "open")
        self.assertEqual((told[1][0], told[2][0]), (((0, 1),), ((1, 0),)))

    def test_against_all_orders_gone_through_one_by_one(self):
        counts = {}
        for seed in range(500):
            maker = Maker(seed)
            saying = maker.saying(8)
            rounds = maker.rounds(SMALL, 3, 4, 4)
            told = self.told(saying, rounds, SMALL)
            self.assertEqual(told[0], plain_verdict(rounds, lambda row: verdict(SMALL, saying, row)[0]))
            counts[told[0]] = counts.get(told[0], 0) + 1
        self.assertGreater(min(counts.values()), 50, counts)

    def test_against_rows_gone_through_one_by_one(self):
        for seed in range(80):
            maker = Maker(seed)
            saying = maker.saying(4)
            rounds = maker.rounds(TWO, 2, 3, 3)

            def word_of(row):
                return plain_word(TWO, lambda whole: plain_holds(saying, whole, 0), row, 5)
            self.assertEqual(self.told(saying, rounds)[0], plain_verdict(rounds, word_of), (saying, rounds))

    def test_full_rounds(self):
        rounds = (((a, b),) * 4,) * 4
        self.words("some both now name a next now name b", (rounds, "yes"))
        self.words("some both now name b next both now name b next both now name b next now name b", (rounds, "open"))
        self.words("now name b", (rounds, "no"))
        self.words("always either now name a next now any", (rounds, "open"))
        self.words("always some now name a", (rounds, "open"))
        happenings = happenings_of(TABLE)
        rounds = (tuple(zip(happenings, happenings[2:])),) * 4
        self.assertEqual([len(rows) for rows in rounds], [4] * 4)
        self.told(THREE_HUNDRED, rounds, TABLE)

    def test_places_are_of_all_positions_rising(self):
        told = self.told(read_saying("some now name a"), (((a, b), (), (b,)), ((), (b,), ())))
        self.assertEqual(told[0], "yes")
        self.assertEqual([[positions for positions, stands in place] for place in told[1]],
                         [[(0, 0, 0), (0, 0, 1), (1, 0, 0), (1, 0, 1), (2, 0, 0), (2, 0, 1)], [(0, 0, 0), (0, 1, 0)]])

    def test_bent_in_one_place_it_is_refused(self):
        rounds = (((a,), (b,)),)
        for text in ("some now name a", "always now name a", "now name a"):
            saying = read_saying(text)
            told = self.told(saying, rounds)
            bends = [((0,), {"yes": "no", "no": "yes", "open": "yes"}[told[0]])]
            if told[0] == "open":
                bends += [((1, 0), told[2][0]), ((2, 0), told[1][0]), ((1, 0), ()), ((2, 0), ((0, 0),))]
            else:
                other = () if told[0] == "yes" else ((),)
                bends += [((2,), (other,)), ((2,), told[2] + (other,)), ((1,), ()), ((1, 0, 3, 0), (0, 0))]
                start = ((),) if told[0] == "yes" else ()
                bends += [((1, 0, 0, 1), (start,))]
            for path, other in bends:
                with self.assertRaises(NoPaper, msg=(told, path, other)):
                    lets_woven(TWO, saying, rounds, bent(told, path, other))

    def test_more_than_three_hundred_stands(self):
        for rounds in ((), (((),),), (((("a", 0),), (("b", 0),)),)):
            self.assertEqual(ask(woven, WIDE, ONE_MORE, rounds), MANY)
        saying = read_saying("both now name a each a x each b y some both now same x next now same y")
        self.assertEqual(ask(woven, WIDE, saying, (((b,),),)), MANY)


class WeaveTest(Telling):

    def weave(self, text, hands=("x", "y"), table=TWO):
        return Weave(table, read_saying(text), hands)

    def state(self, weave):
        return (weave.rounds(), weave.tells(), weave.told())

    def test_at_first_one_round_without_happenings(self):
        for hands in (("x",), ("x", "y"), ("a", "b", "one", "two")):
            weave = self.weave("some now name a", hands)
            self.assertEqual(weave.rounds(), (((),) * len(hands),))
            self.assertEqual(weave.tells(), "open")
            self.looked_at(weave.told(), read_saying("some now name a"), weave.rounds(), TWO)

    def test_hands_tell_and_meet(self):
        weave = self.weave("some both now name a next now name b")
        self.assertIsNone(weave.say("x", a))
        self.assertEqual((weave.rounds(), weave.tells()), ((((a,), ()),), "open"))
        self.assertIsNone(weave.say("y", b))
        self.assertEqual((weave.rounds(), weave.tells()), ((((a,), (b,)),), "open"))
        self.assertIsNone(weave.meet())
        self.assertEqual((weave.rounds(), weave.tells()), ((((a,), (b,)), ((), ())), "open"))
        weave.say("y", a)
        weave.say("y", b)
        self.assertEqual((weave.rounds(), weave.tells()), ((((a,), (b,)), ((), (a, b))), "yes"))

    # A happening told later in the same round is woven ahead of others, too; behind a meeting yes and no stay.
    def test_a_round_may_turn_yes_and_no(self):
        weave = self.weave("now name a")
        weave.say("x", a)
        self.assertEqual(weave.tells(), "yes")
        weave.say("y", b)
        self.assertEqual(weave.tells(), "open")
        weave = self.weave("now name a")
        weave.say("x", a)
        weave.meet()
        weave.say("y", b)
        self.assertEqual(weave.tells(), "yes")
        weave = self.weave("now name a")
        weave.say("y", b)
        self.assertEqual(weave.tells(), "no")
        weave.say("x", a)
        self.assertEqual(weave.tells(), "open")

    def test_behind_a_meeting_yes_and_no_stay(self):
        stayed = 0
        for seed in range(200):
            maker = Maker(seed)
            weave = Weave(SMALL, maker.saying(6), ("x", "y"))
            sure = "open"
            for _ in range(12):
                if maker.pick((True, False, False)) and len(weave.rounds()) < 4:
                    sure = weave.tells()
                    weave.meet()
                elif sum(len(row) for row in weave.rounds()[-1]) < 8:
                    weave.say(maker.pick("xy"), maker.pick(happenings_of(SMALL)))
                if sure != "open":
                    stayed += 1
                    self.assertEqual(weave.tells(), sure)
        self.assertGreater(stayed, 50)

    def test_it_tells_what_is_woven_of_its_rounds(self):
        for seed in range(100):
            maker = Maker(seed)
            saying, hands = maker.saying(6), ("x", "y", "z")[:maker.random.randint(1, 3)]
            weave = Weave(SMALL, saying, hands)
            rounds = [[() for _ in hands]]
            for _ in range(6):
                if maker.pick((True, False, False)) and len(rounds) < 3:
                    weave.meet()
                    rounds.append([() for _ in hands])
                else:
                    hand, happening = maker.random.randrange(len(hands)), maker.pick(happenings_of(SMALL))
                    weave.say(hands[hand], happening)
                    rounds[-1][hand] += (happening,)
            wanted = tuple(tuple(rows) for rows in rounds)
            self.assertEqual(weave.rounds(), wanted)
            told = self.looked_at(weave.told(), saying, wanted, SMALL)
            self.assertEqual((weave.tells(), told[0]), (woven(SMALL, saying, wanted)[0],) * 2)

    def test_kinds(self):
        weave = self.weave("some now name a")
        weave.say("x", a)
        self.assertEqual([type(weave.rounds()), type(weave.rounds()[0]), type(weave.rounds()[0][0])], [tuple] * 3)
        self.assertEqual([type(weave.tells()), type(weave.told())], [str, tuple])

    def refused(self, weave, error, fields, *things):
        before = self.state(weave)
        told = ask(weave.say, *things) if things else ask(weave.meet)
        self.assertEqual(told[0], error, things)
        if fields is not None:
            self.assertEqual(told[1], fields)
        self.assertEqual(self.state(weave), before)

    def test_strange_hands_and_happenings_change_nothing(self):
        weave = self.weave("some now name a", ("a", "y"), TABLE)
        weave.say("y", ("b", 2))
        for hand in ("x", "", "aa", "Y", " a", "b", "one"):
            self.refused(weave, NoName, {"name": hand}, hand, ("a", 0))
            self.refused(weave, NoName, {"name": hand}, hand, None)
        for thing in STRANGE + (("c", 0), ("a", 3), ("a", True), ["a", 0], ("a", "0"), ("a", 0, 0)):
            if thing != ("a", 1):
                self.refused(weave, NoHappening, None, "y", thing)
        weave.say("a", ("a", 1))
        self.assertEqual(weave.rounds(), ((((("a", 1)),), (("b", 2),)),))

    def test_eight_happenings_in_a_round_and_a_ninth(self):
        weave = self.weave("always now name a")
        for number in range(8):
            weave.say("xy"[number % 2], a)
        self.refused(weave, TooMany, {"word": "happenings"}, "x", a)
        self.refused(weave, TooMany, {"word": "happenings"}, "y", b)
        self.refused(weave, NoHappening, None, "y", None)
        self.refused(weave, NoName, {"name": "z"}, "z", a)
        self.assertEqual(weave.tells(), "open")
        weave.meet()
        weave.say("x", b)
        self.assertEqual((weave.tells(), weave.rounds()[1]), ("no", ((b,), ())))

    def test_four_rounds_and_a_fifth(self):
        weave = self.weave("some now name a")
        for number in range(3):
            weave.meet()
        weave.say("x", b)
        self.refused(weave, TooMany, {"word": "rounds"})
        self.assertEqual(len(weave.rounds()), 4)
        weave.say("x", a)
        self.refused(weave, TooMany, {"word": "rounds"})
        self.assertEqual(weave.tells(), "yes")

    def test_two_weaves_go_each_its_own_way(self):
        one, other = self.weave("some now name a"), self.weave("some now name a")
        one.say("x", a)
        one.meet()
        self.assertEqual((other.rounds(), other.tells()), ((((), ()),), "open"))
        before = one.rounds()
        one.say("y", b)
        self.assertEqual(before, (((a,), ()), ((), ())))

    def test_more_than_three_hundred_stands(self):
        self.assertEqual(ask(Weave, WIDE, ONE_MORE, ("x",)), MANY)
        weave = Weave(TABLE, THREE_HUNDRED, ("x", "y"))
        weave.say("x", ("a", 1))
        self.looked_at(weave.told(), THREE_HUNDRED, weave.rounds(), TABLE)
