import unittest

from surewatch.errors import NoWatch
from surewatch.going import gone_by, met
from surewatch.judges import judge_of
from surewatch.reading import read_saying
from surewatch.stands import alike, ends, laid
from surewatch.tables import happenings_of
from surewatch.watchchecker import lets_judge, lets_watcher
from surewatch.watchers import watcher_of
from surewatch.watchpapers import judge_paper, watcher_paper
from tests.plain import (SMALL, STRANGE, TABLE, TWO, WIDE, Maker, as_sets, ask, bent, paths_in, plain_by, plain_ends,
                         plain_gone, plain_laid, plain_number, plain_part, plain_trim, with_lists)
from tests.things import A, ALL_A, EACH, MANY, NONE, SOME_A, TILL_A, a, b, stand

JUDGE = (((1, 0), (1, 1)), (False, True))
JUDGE_PAPER = (((stand(SOME_A),), (EACH,)), ((),))
WATCHER = (((1, 0), (1, 1)), ("open", "yes"))
WATCHER_PAPER = ((((stand(SOME_A), (a,), ()),), ((EACH,),)), ((),))
TURNED = (((0, 1), (1, 1)), ("open", "no"))
TURNED_PAPER = ((((stand(ALL_A), (), (b,)),), ((NONE,),)), ((),))


def no_watch(word, number):
    return (NoWatch, {"word": word, "number": number})


# The faults of 34 behind shape, as (rank of the word, number), of stands by spots; faulty tells those of the words
# between begin and next.
def plain_lets(table, saying, machine, places, rows, faulty):
    nexts = machine[0]
    number = plain_number(nexts)
    if number is not None:
        return no_watch("number", number)
    if plain_trim(plain_laid(saying, True)) not in [plain_trim(one) for one in places[0]]:
        return no_watch("begin", 0)
    for spot in range(len(nexts)):
        if faulty(spot):
            return no_watch(faulty(spot), spot)
    for spot in range(len(nexts)):
        for column, happening in enumerate(happenings_of(table)):
            wanted = [plain_trim(one) for one in places[nexts[spot][column]]]
            if any(as_sets(plain_gone(one, happening)) not in wanted for one in places[spot]):
                return no_watch("next", spot)
    part = plain_part(table, machine, rows)
    return True if part is None else no_watch("part", part)


def plain_lets_judge(table, saying, judge, paper):
    return plain_lets(table, saying, judge, paper[0], paper[1],
                      lambda spot: "end" if any(plain_ends(one) != judge[1][spot] for one in paper[0][spot]) else "")


def plain_lets_watcher(table, saying, watcher, paper):
    def faulty(spot):
        word, entries = watcher[1][spot], paper[0][spot]
        if word == "open":
            right = all(plain_ends(plain_by(one, pro)) and not plain_ends(plain_by(one, con))
                        for one, pro, con in entries)
        else:
            right = all(plain_ends(entry[0]) == (word == "yes") for entry in entries)
            right = right and all(watcher[1][later] == word for later in watcher[0][spot])
        return "" if right else word
    places = [[entry[0] for entry in place] for place in paper[0]]
    return plain_lets(table, saying, watcher, places, paper[1], faulty)


class Checks(unittest.TestCase):

    def judge_is(self, wanted, judge, paper, saying=SOME_A, table=TWO):
        wanted = wanted if wanted is True else no_watch(wanted[0], wanted[1])
        self.assertEqual(ask(lets_judge, table, saying, judge, paper), wanted, (judge, paper))

    def watcher_is(self, wanted, watcher, paper, saying=SOME_A, table=TWO):
        wanted = wanted if wanted is True else no_watch(wanted[0], wanted[1])
        self.assertEqual(ask(lets_watcher, table, saying, watcher, paper), wanted, (watcher, paper))


class LetByTest(Checks):

    def test_let_by(self):
        self.judge_is(True, JUDGE, JUDGE_PAPER)
        self.watcher_is(True, WATCHER, WATCHER_PAPER)
        self.watcher_is(True, TURNED, TURNED_PAPER, ALL_A)

    def test_one_spot(self):
        self.judge_is(True, (((0, 0),), (True,)), (((EACH,),), ()), ("yes",))
        self.judge_is(True, (((0, 0),), (False,)), (((NONE,),), ()), ("no",))
        self.judge_is(True, (((0, 0),), (True,)), (((EACH,),), ((), (a, b), (a,))), ("yes",))
        self.watcher_is(True, (((0, 0),), ("yes",)), ((((EACH,),),), ()), ("yes",))
        self.watcher_is(True, (((0, 0),), ("no",)), ((((NONE,),),), ((b,),)), ("no",))
        saying = read_saying("some both now name a not next now any")
        entries = tuple((one, (a,), (b,)) for one in met(TWO, laid(saying, True)))
        self.watcher_is(True, (((0, 0),), ("open",)), ((entries,), ()), saying)

    def test_more_stands_than_are_needed(self):
        more = ((stand(SOME_A), stand(TILL_A), stand(SOME_A), stand(TILL_A)), (EACH, EACH))
        self.judge_is(True, JUDGE, (more, ((b,), (), (a,))))
        self.judge_is(("begin", 0), JUDGE, (((stand(TILL_A),), (EACH,)), ((),)))
        more = (((stand(TILL_A), (b, a), (b,)), (stand(SOME_A), (a, a), ())), ((EACH,), (EACH,)))
        self.watcher_is(True, WATCHER, (more, ((),)))
        always = ("always", ("now", ("any",)))
        self.judge_is(True, JUDGE, (((stand(SOME_A),), (EACH, stand(always))), ((),)))
        self.watcher_is(True, WATCHER, (bent(WATCHER_PAPER[0], (1,), ((EACH,), (stand(always),))), ((),)))

    def test_stands_need_not_be_trimmed(self):
        void = ((A, True), (A, False))
        first = (((SOME_A, True), (SOME_A, True)), void, ((A, True), (SOME_A, True)))
        self.judge_is(True, JUDGE, (((first,), ((void, (), ((A, True),)),)), ((),)))
        self.watcher_is(True, WATCHER, ((((first, (b, a), (b,)),), (((void, ()),),)), ((),)))

    def test_more_rows_than_are_needed(self):
        self.judge_is(True, JUDGE, (JUDGE_PAPER[0], ((), (b,), (a,), (b,) * 3000)))
        self.watcher_is(True, WATCHER, (WATCHER_PAPER[0], ((), (b,), (a,), (b,) * 3000)))

    def test_pro_and_con_of_any_length(self):
        entry = (stand(SOME_A), (b,) * 3000 + (a,), (b,) * 3000)
        self.watcher_is(True, WATCHER, (((entry,), ((EACH,),)), ((),)))

    def test_more_than_three_hundred_stands_are_refused_nowhere(self):
        self.judge_is(("next", 0), (((0,) * 12,), (True,)), (((laid(MANY, True),),), ()), MANY, WIDE)
        entry = (laid(MANY, True), (), (("a", 0), ("b", 0)))
        self.watcher_is(("next", 0), (((0,) * 12,), ("open",)), (((entry,),), ()), MANY, WIDE)
        dull = ("either", ("yes",), MANY)
        self.judge_is(True, (((0,) * 12,), (True,)), (((EACH,),), ()), dull, WIDE)


class ShapeTest(Checks):

    def test_strange_things(self):
        for thing in STRANGE:
            self.judge_is(("shape", 0), thing, JUDGE_PAPER)
            self.watcher_is(("shape", 0), thing, WATCHER_PAPER)
            self.judge_is(("shape", 0), JUDGE, thing)
            self.watcher_is(("shape", 0), WATCHER, thing)
            self.judge_is(("shape", 0), thing, thing)

    def test_each_place_of_a_paper_bent(self):
        for thing in (None, -1, [], "ninesigns"):
            for path in paths_in(JUDGE_PAPER):
                self.judge_is(("shape", 0), JUDGE, bent(JUDGE_PAPER, path, thing))
            for path in paths_in(WATCHER_PAPER):
                self.watcher_is(("shape", 0), WATCHER, bent(WATCHER_PAPER, path, thing))

    def test_each_place_of_a_machine_bent(self):
        for thing in (None, -1, [], "ninesigns", 2):
            for path in paths_in(JUDGE):
                self.judge_is(("shape", 0), bent(JUDGE, path, thing), JUDGE_PAPER)
                self.watcher_is(("shape", 0), bent(WATCHER, path, thing), WATCHER_PAPER)

    def test_truths_are_no_numbers(self):
        self.judge_is(("shape", 0), (((True, 0), (1, 1)), (False, True)), JUDGE_PAPER)
        self.judge_is(("shape", 0), (JUDGE[0], (0, 1)), JUDGE_PAPER)
        self.judge_is(("shape", 0), JUDGE, bent(JUDGE_PAPER, (0, 0, 0, 0, 0, 1), 1))
        self.watcher_is(("shape", 0), WATCHER, bent(WATCHER_PAPER, (0, 0, 0, 1, 0, 1), False))

    def test_lists_in_the_place_of_tuples(self):
        for bad in with_lists(JUDGE_PAPER):
            self.judge_is(("shape", 0), JUDGE, bad)
        for bad in with_lists(WATCHER_PAPER):
            self.watcher_is(("shape", 0), WATCHER, bad)

    def test_as_many_places_as_spots_and_one_stand_or_more(self):
        places, rows = JUDGE_PAPER
        for bad in ((), places[:1], places + places[:1], (places[0], ())):
            self.judge_is(("shape", 0), JUDGE, (bad, rows))
        places, rows = WATCHER_PAPER
        for bad in ((), places[:1], places + places[:1], (places[0], ()), ((), places[1])):
            self.watcher_is(("shape", 0), WATCHER, (bad, rows))
        for paper in ((), JUDGE_PAPER[:1], JUDGE_PAPER + ((),)):
            self.judge_is(("shape", 0), JUDGE, paper)

    def test_entries_are_as_the_verdict_wants(self):
        for path, entry in (((0, 0, 0), (stand(SOME_A),)), ((0, 0, 0), (stand(SOME_A), (a,))), ((0, 1, 0), ()),
                            ((0, 0, 0), (stand(SOME_A), (a,), (), ())), ((0, 1, 0), (EACH, (), ())),
                            ((0, 1, 0), (EACH, ())), ((0, 0, 0), ())):
            self.watcher_is(("shape", 0), WATCHER, bent(WATCHER_PAPER, path, entry))

    def test_rows_of_another_table(self):
        for row in ((("c", 0),), (("a", 1),), (("a", False),), [a], a):
            self.judge_is(("shape", 0), JUDGE, (JUDGE_PAPER[0], ((), row)))
            self.watcher_is(("shape", 0), WATCHER, (WATCHER_PAPER[0], ((), row)))
            self.watcher_is(("shape", 0), WATCHER, bent(WATCHER_PAPER, (0, 0, 0, 1), row))
            self.watcher_is(("shape", 0), WATCHER, bent(WATCHER_PAPER, (0, 0, 0, 2), row))

    def test_a_watcher_is_no_judge(self):
        self.judge_is(("shape", 0), WATCHER, JUDGE_PAPER)
        self.watcher_is(("shape", 0), JUDGE, WATCHER_PAPER)

    def test_ahead_of_all_else(self):
        self.judge_is(("shape", 0), (((0, 0), (1, 1)), (True, True)), (((EACH,), (EACH,)), (None,)))
        self.watcher_is(("shape", 0), (((0, 0), (1, 1)), ("no", "no")), ((((EACH,),), ((EACH,),)), (None,)))


class NumberTest(Checks):

    def both_are(self, wanted, nexts):
        count = len(nexts)
        self.judge_is(wanted, (nexts, (True,) * count), (((EACH,),) * count, ()))
        self.watcher_is(wanted, (nexts, ("no",) * count), ((((EACH,),),) * count, ()))

    def test_wrong_numbers(self):
        self.both_are(("number", 2), ((2, 1), (1, 1), (2, 2)))
        self.both_are(("number", 2), ((0, 2), (1, 1), (2, 2)))
        self.both_are(("number", 3), ((1, 3), (2, 2), (2, 2), (3, 3)))
        self.both_are(("number", 3), ((1, 1), (3, 2), (2, 2), (3, 3)))

    def test_spots_that_none_leads_to(self):
        self.both_are(("number", 1), ((0, 0), (1, 1)))
        self.both_are(("number", 2), ((1, 0), (1, 0), (2, 1), (0, 3)))
        self.both_are(("number", 1), ((0, 0), (2, 2), (1, 1)))

    # Spot 2 is never met, but spot 3 is met first, with another number than that wants.
    def test_what_is_met_goes_ahead_of_what_is_not(self):
        self.both_are(("number", 3), ((0, 1), (3, 1), (2, 2), (3, 3)))

    def test_ahead_of_the_begin(self):
        self.both_are(("begin", 0), ((1, 2), (1, 1), (2, 2)))
        self.both_are(("number", 2), ((2, 1), (1, 1), (2, 2)))


class FaultsTest(Checks):

    def test_begin(self):
        self.judge_is(("begin", 0), JUDGE, JUDGE_PAPER, ALL_A)
        self.judge_is(("begin", 0), JUDGE, (((EACH,), (stand(SOME_A),)), ((),)))
        self.watcher_is(("begin", 0), WATCHER, WATCHER_PAPER, ("either", SOME_A, ALL_A))
        self.watcher_is(True, WATCHER, WATCHER_PAPER, ("either", SOME_A, ("both", ALL_A, SOME_A)))

    def test_end(self):
        self.judge_is(("end", 0), (JUDGE[0], (True, True)), JUDGE_PAPER)
        self.judge_is(("end", 1), (JUDGE[0], (False, False)), JUDGE_PAPER)
        self.judge_is(("end", 0), (JUDGE[0], (True, False)), JUDGE_PAPER)
        self.judge_is(("end", 1), JUDGE, (((stand(SOME_A),), (EACH, NONE)), ((),)))
        self.judge_is(("end", 0), JUDGE, (((stand(SOME_A), EACH), (EACH,)), ((),)))

    def test_next(self):
        self.judge_is(("next", 0), JUDGE, (((stand(SOME_A),), (stand(ALL_A),)), ((),)))
        self.judge_is(("next", 1), JUDGE, (((stand(SOME_A),), (EACH, stand(ALL_A))), ((),)))
        self.judge_is(("next", 0), (((1, 1), (1, 1)), (False, True)), JUDGE_PAPER)
        self.judge_is(("next", 1), (((1, 0), (1, 0)), (False, True)), JUDGE_PAPER)
        self.judge_is(("next", 0), JUDGE, (((stand(SOME_A), stand(("next", SOME_A))), (EACH,)), ((),)))
        self.watcher_is(("next", 0), (((1, 1), (1, 1)), ("open", "yes")), WATCHER_PAPER)

    # All of one word goes ahead of all of the next.
    def test_ends_of_all_spots_ahead_of_nexts(self):
        self.judge_is(("end", 1), (((1, 1), (1, 1)), (False, False)), JUDGE_PAPER)
        self.judge_is(("end", 1), JUDGE, (((stand(SOME_A), stand(TILL_A, SOME_A, A)), (NONE,)), ((),)))
        self.watcher_is(("yes", 1), (((1, 1), (1, 1)), ("open", "yes")),
                        ((((stand(SOME_A), (a,), ()),), ((stand(A),),)), ((),)))

    def test_part(self):
        self.judge_is(("part", 1), JUDGE, (JUDGE_PAPER[0], ()))
        self.judge_is(("part", 1), JUDGE, (JUDGE_PAPER[0], ((a,), (b, a))))
        self.watcher_is(("part", 1), WATCHER, (WATCHER_PAPER[0], ()))
        double = (((1, 0), (2, 2), (2, 1)), (False, True, True))
        self.judge_is(("part", 2), double, (((stand(SOME_A),), (EACH,), (EACH,)), ((), (a,), (b, b))))
        double = (((1, 0), (2, 2), (2, 1)), ("open", "yes", "yes"))
        self.watcher_is(("part", 2), double, (WATCHER_PAPER[0] + (((EACH,),),), ((), (a,), (b, b))))

    # A stand that is gone on is asked for alike ones; that it is shown is not enough.
    def test_shown_is_not_alike(self):
        always = ("always", ("now", ("any",)))
        self.judge_is(("next", 1), JUDGE, (((stand(SOME_A),), (EACH, (((always, True),), ((ALL_A, True),)))), ((),)))

    def test_yes_and_no(self):
        self.watcher_is(("yes", 1), (((1, 0), (1, 0)), ("open", "yes")), WATCHER_PAPER)
        self.watcher_is(("yes", 1), (((1, 0), (0, 1)), ("open", "yes")), WATCHER_PAPER)
        self.watcher_is(("no", 1), (((0, 1), (0, 1)), ("open", "no")), TURNED_PAPER, ALL_A)
        self.watcher_is(("no", 1), (((0, 1), (1, 0)), ("open", "no")), TURNED_PAPER, ALL_A)
        self.watcher_is(("yes", 1), TURNED[:1] + (("open", "yes"),), TURNED_PAPER, ALL_A)
        self.watcher_is(("no", 1), WATCHER[:1] + (("open", "no"),), WATCHER_PAPER)
        self.watcher_is(("yes", 1), WATCHER, bent(WATCHER_PAPER, (0, 1), ((EACH,), (stand(SOME_A),))))
        self.watcher_is(("no", 1), TURNED, bent(TURNED_PAPER, (0, 1), ((NONE,), (EACH,))), ALL_A)
        three = (((1, 2), (1, 1), (2, 2)), ("open", "yes", "no"))
        paper = ((((stand(A), (a,), ()),), ((EACH,),), ((NONE,),)), ((),))
        self.watcher_is(True, three, paper, A)
        self.watcher_is(("no", 1), (three[0], ("open", "no", "yes")), paper, A)
        self.watcher_is(("yes", 1), (((1, 2), (1, 2), (2, 2)), three[1]), paper, A)
        self.watcher_is(("no", 2), (((1, 2), (1, 1), (2, 1)), three[1]), paper, A)

    # A saying that is sure from the begin, told as one that is open for a while.
    def test_one_verdict_leads_to_the_like(self):
        late = (((1, 1), (1, 1)), ("yes", "open"))
        self.watcher_is(("yes", 0), late, ((((EACH,),), ((EACH, (), ()),)), ((),)), ("yes",))

    def test_open(self):
        for pro, con, wanted in (((a,), (), True), ((b, a), (b, b), True), ((), (), ("open", 0)),
                                 ((a,), (a,), ("open", 0)), ((b,), (b, a), ("open", 0)), ((), (a,), ("open", 0))):
            self.watcher_is(wanted, WATCHER, bent(WATCHER_PAPER, (0, 0), ((stand(SOME_A), pro, con),)))
        twice = ((stand(SOME_A), (a,), ()), (stand(SOME_A), (b,), ()))
        self.watcher_is(("open", 0), WATCHER, bent(WATCHER_PAPER, (0, 0), twice))
        self.watcher_is(("open", 1), WATCHER[:1] + (("open", "open"),),
                        bent(WATCHER_PAPER, (0, 1), ((EACH, (), ()),)))

    # Yes, no and open are one word: the least spot of all these goes.
    def test_the_least_spot_of_yes_no_and_open(self):
        three = (((1, 2), (1, 1), (2, 2)), ("open", "yes", "no"))
        good = ((((stand(A), (a,), ()),), ((EACH,),), ((NONE,),)), ((),))
        self.watcher_is(("open", 0), three, bent(bent(good, (0, 1, 0, 0), NONE), (0, 0, 0, 1), ()), A)
        self.watcher_is(("yes", 1), three, bent(bent(good, (0, 1, 0, 0), NONE), (0, 2, 0, 0), EACH), A)
        self.watcher_is(("no", 2), three, bent(good, (0, 2, 0, 0), EACH), A)
        swapped = (((1, 2), (1, 1), (2, 2)), ("open", "no", "yes"))
        good = ((((stand(("now", ("name", "b"))), (b,), ()),), ((NONE,),), ((EACH,),)), ((),))
        self.watcher_is(True, swapped, good, ("now", ("name", "b")))
        self.watcher_is(("no", 1), swapped, bent(bent(good, (0, 1, 0, 0), EACH), (0, 2, 0, 0), NONE),
                        ("now", ("name", "b")))


class AgreeTest(Checks):

    # A paper as told, perhaps bent somewhat, but of the right shape.
    def bend(self, maker, table, saying, machine, places, rows, entry):
        machine, places, rows = list(machine), [list(place) for place in places], list(rows)
        count = len(places)
        spot = maker.random.randrange(count)
        turn = maker.pick(("none", "nexts", "word", "drop", "more", "strange", "rows", "swap", "double"))
        if turn == "nexts":
            leads = list(machine[0][spot])
            leads[maker.random.randrange(len(leads))] = maker.random.randrange(count)
            machine[0] = bent(machine[0], (spot,), tuple(leads))
        if turn == "word":
            other = maker.pick(sorted(set(machine[1]) | {machine[1][0]}))
            machine[1] = bent(machine[1], (spot,), other)
        if turn == "drop" and len(places[spot]) > 1:
            places[spot].pop(maker.random.randrange(len(places[spot])))
        if turn == "more":
            places[spot] += [maker.pick(maker.pick(places))]
        if turn == "strange":
            places[spot] += [entry(maker, maker.pick([EACH, NONE] + 2 * [maker.stand(2, 2)]))]
        if turn == "rows" and rows:
            rows.pop(maker.random.randrange(len(rows)))
        if turn == "swap":
            other = maker.random.randrange(count)
            places[spot], places[other] = places[other], places[spot]
        if turn == "double":
            last = maker.pick(machine[0])
            machine[0] = bent(machine[0], (spot, 0), count) + (last,)
            machine[1] += (machine[1][spot],)
            places += [places[spot]]
        return tuple(machine), (tuple(tuple(place) for place in places), tuple(rows))

    def count(self, counts, wanted):
        word = wanted if wanted is True else wanted[1]["word"]
        counts[word] = counts.get(word, 0) + 1

    def test_judges_against_the_plain_words(self):
        counts = {}
        for seed in range(700):
            maker = Maker(seed)
            saying = maker.saying(8)
            judge, (places, rows) = judge_paper(SMALL, saying)
            judge, paper = self.bend(maker, SMALL, saying, judge, places, rows, lambda maker, one: one)
            wanted = plain_lets_judge(SMALL, saying, judge, paper)
            self.assertEqual(ask(lets_judge, SMALL, saying, judge, paper), wanted, (seed, judge, paper))
            if wanted is True:
                self.assertEqual(judge, judge_of(SMALL, saying))
            self.count(counts, wanted)
        self.assertEqual(set(counts), {True, "number", "begin", "end", "next", "part"})

    def test_watchers_against_the_plain_words(self):
        counts = {}
        for seed in range(900):
            maker = Maker(seed)
            saying = maker.saying(8)
            watcher, (places, rows) = watcher_paper(SMALL, saying)

            def entry(maker, one):
                return maker.pick(((one,), (one, maker.row(SMALL, 2), maker.row(SMALL, 2))))
            watcher, paper = self.bend(maker, SMALL, saying, watcher, places, rows, entry)
            told = ask(lets_watcher, SMALL, saying, watcher, paper)
            lengths = [3 if word == "open" else 1 for word in watcher[1]]
            if all(len(entry) == length for length, place in zip(lengths, paper[0]) for entry in place):
                wanted = plain_lets_watcher(SMALL, saying, watcher, paper)
            else:
                wanted = no_watch("shape", 0)
            self.assertEqual(told, wanted, (seed, watcher, paper))
            if wanted is True:
                self.assertEqual(watcher, watcher_of(SMALL, saying))
            self.count(counts, wanted)
        self.assertLessEqual({True, "shape", "number", "begin", "yes", "no", "open", "next"}, set(counts))

    # With its own paper no judge and no watcher is let by but the right one.
    def test_machines_bent_in_one_place(self):
        for seed in range(40):
            maker = Maker(seed)
            saying = maker.saying(8)
            judge, paper = judge_paper(SMALL, saying)
            watcher, watch = watcher_paper(SMALL, saying)
            for machine, lets, own, words in ((judge, lets_judge, paper, (True, False)),
                                              (watcher, lets_watcher, watch, ("yes", "no", "open"))):
                count = len(machine[0])
                for spot in range(count):
                    places = [((0, spot, column), range(count)) for column in range(3)] + [((1, spot), words)]
                    for path, things in places:
                        for thing in things:
                            other = bent(machine, path, thing)
                            told = ask(lets, SMALL, saying, other, own)
                            self.assertEqual(told is True, other == machine, (saying, other))

    def test_of_another_saying(self):
        for seed in range(60):
            one, other = Maker(seed).saying(6), Maker(seed + 1000).saying(6)
            judge, paper = judge_paper(SMALL, one)
            if not alike(laid(one, True), laid(other, True)):
                self.judge_is(("begin", 0), judge, paper, other, SMALL)

    def test_open_by_what_pro_and_con_lead_to(self):
        for seed in range(100):
            maker = Maker(seed)
            one, pro, con = maker.stand(2, 2), maker.row(TABLE, 3), maker.row(TABLE, 3)
            right = ends(gone_by(one, pro)) and not ends(gone_by(one, con))
            saying = ("always", ("some", A))
            paper = ((((laid(saying, True), (), (("b", 0),)), (one, pro, con)),), ())
            told = ask(lets_watcher, TABLE, saying, (((0,) * 6,), ("open",)), paper)
            self.assertEqual(told == no_watch("open", 0), not right)
