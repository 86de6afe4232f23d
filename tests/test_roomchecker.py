import unittest

from surewatch.room import Watch
from surewatch.roomchecker import lets_room, room_of
from surewatch.rooms import room_told
from surewatch.stands import laid, trimmed
from surewatch.tables import happenings_of
from tests.plain import (SMALL, STRANGE, TABLE, TWO, WIDE, Maker, as_sets, ask, bent, paths_in, plain_by, plain_gone,
                         plain_laid, plain_room, plain_trim, with_lists)
from tests.things import A, EACH, LAST_A, MANY, NONE, SOME_A, a, b, no_paper, stand

FIRST = stand(LAST_A)
SECOND = stand(SOME_A, LAST_A)
# Of LAST_A.
TOLD = (2, (b,), (FIRST, SECOND))


# What 49 says, word by word, of a thing of the right shape.
def plain_lets(table, saying, told):
    most, row, stands = told
    begin = plain_laid(saying, True)
    sets = [plain_trim(one) for one in stands]
    for n, one in enumerate(stands):
        if plain_room(one) > most:
            return no_paper(n, "most")
    if plain_trim(begin) not in sets:
        return no_paper(0, "first")
    for n, one in enumerate(stands):
        if any(as_sets(plain_gone(one, happening)) not in sets for happening in happenings_of(table)):
            return no_paper(n, "closed")
    return True if plain_room(plain_by(begin, row)) == most else no_paper(0, "row")


class RoomOfTest(unittest.TestCase):

    def test_things_in_all_bunches(self):
        for one, room in ((NONE, 0), (EACH, 0), (FIRST, 1), (SECOND, 2), (stand(A), 1),
                          (stand(A) + stand(LAST_A), 2), (stand(A, LAST_A) + stand(SOME_A, LAST_A), 4)):
            self.assertEqual(ask(room_of, one), room)

    def test_of_the_stand_trimmed(self):
        void = ((A, True), (A, False))
        self.assertEqual(ask(room_of, (void,)), 0)
        self.assertEqual(ask(room_of, (((A, True), (A, True)),)), 1)
        self.assertEqual(ask(room_of, stand(A) + stand(A)), 1)
        self.assertEqual(ask(room_of, stand(A) + stand(A, LAST_A)), 1)
        self.assertEqual(ask(room_of, stand(A) + stand(LAST_A) + EACH), 0)
        for seed in range(300):
            one = Maker(seed).stand(5, 3)
            self.assertEqual(ask(room_of, one), plain_room(one))
            self.assertEqual(room_of(trimmed(one)), plain_room(one))
            self.assertIs(type(room_of(one)), int)

    def test_it_is_the_room_of_a_watch(self):
        for seed in range(60):
            maker = Maker(seed)
            watch = Watch(SMALL, maker.saying())
            for happening in maker.row(SMALL, 5):
                watch.say(happening)
                self.assertEqual(room_of(watch.stand()), watch.room())


class Checks(unittest.TestCase):

    def told_is(self, wanted, told, saying=LAST_A, table=TWO):
        wanted = wanted if wanted is True else no_paper(wanted[0], wanted[1])
        self.assertEqual(ask(lets_room, table, saying, told), wanted, told)


class LetByTest(Checks):

    def test_let_by(self):
        self.told_is(True, TOLD)
        self.told_is(True, (2, (a, b), (SECOND, FIRST)))
        self.told_is(True, (0, (), (EACH,)), ("yes",))
        self.told_is(True, (0, (a, b), (NONE,)), ("no",))
        self.told_is(True, (1, (b, b), (EACH, stand(SOME_A))), SOME_A)

    def test_rows_of_any_length(self):
        self.told_is(True, (2, (a,) * 2000 + (b,), (FIRST, SECOND)))

    def test_more_stands_than_are_needed(self):
        self.told_is(True, (2, (b,), (FIRST, SECOND, EACH, FIRST, NONE, stand(SOME_A))))

    def test_stands_need_not_be_trimmed(self):
        void = ((A, True), (A, False))
        second = (((SOME_A, True), (LAST_A, True), (SOME_A, True)), void, ((A, True), (SOME_A, True), (LAST_A, True)))
        self.told_is(True, (2, (b,), (FIRST + (void,), second)))

    def test_more_than_three_hundred_stands_are_refused_nowhere(self):
        self.told_is((0, "closed"), (9, (), (laid(MANY, True),)), MANY, WIDE)
        self.told_is((0, "first"), (9, (), ()), MANY, WIDE)
        self.told_is(True, (0, (("a", 5),), (EACH,)), ("either", ("yes",), MANY), WIDE)


class ShapeTest(Checks):

    def test_strange_things(self):
        for thing in STRANGE:
            self.told_is((0, "shape"), thing)
            self.told_is((0, "shape"), (thing, (b,), (FIRST,))
                         if isinstance(thing, bool) or thing not in (0, 1, 7, 10 ** 19) else None)
            self.told_is((0, "shape"), (2, thing, (FIRST,)) if thing != () else None)
            self.told_is((0, "shape"), (2, (b,), thing) if thing not in ((), ((),)) else None)

    def test_each_place_bent(self):
        for path in paths_in(TOLD):
            for thing in (None, -1, [], "ninesigns"):
                self.told_is((0, "shape"), bent(TOLD, path, thing))

    def test_lists_in_the_place_of_tuples(self):
        for bad in with_lists(TOLD):
            self.told_is((0, "shape"), bad)

    def test_lengths_and_rows(self):
        for told in (TOLD[:2], TOLD + ((),), (), (2, (("c", 0),), TOLD[2]), (2, (("a", 1),), TOLD[2]),
                     (2, (("a", False),), TOLD[2]), (True, (b,), TOLD[2]), (False, (), (EACH,))):
            self.told_is((0, "shape"), told)

    def test_ahead_of_all_else(self):
        self.told_is((0, "shape"), (0, (), (FIRST, None)))
        self.told_is((0, "shape"), (0, None, (FIRST,)))


class FaultsTest(Checks):

    def test_most(self):
        self.told_is((1, "most"), (1, (), (FIRST, SECOND)))
        self.told_is((0, "most"), (0, (), (FIRST, SECOND)))
        self.told_is((2, "most"), (2, (b,), (FIRST, SECOND, stand(A, SOME_A, LAST_A), stand(A, SOME_A, LAST_A))))
        self.told_is((0, "row"), (3, (b,), (FIRST, SECOND)))
        self.told_is((0, "row"), (10 ** 19, (b,), (FIRST, SECOND)))

    def test_first(self):
        for stands in ((), (SECOND,), (EACH, SECOND, NONE)):
            self.told_is((0, "first"), (2, (b,), stands))
        self.told_is((0, "first"), TOLD, SOME_A)

    def test_closed(self):
        self.told_is((0, "closed"), (2, (b,), (FIRST,)))
        self.told_is((2, "closed"), (2, (b,), (FIRST, SECOND, stand(("next", A)), stand(("next", A)))))
        self.told_is((1, "closed"), (2, (b,), (EACH, FIRST)))

    # A stand that is shown, or shows, is not alike.
    def test_shown_is_not_alike(self):
        wide = stand(SOME_A, LAST_A) + stand(LAST_A, ("next", A))
        self.told_is((0, "closed"), (9, (b,), (FIRST, wide)))

    def test_row(self):
        for row in ((), (a,), (b, a)):
            self.told_is((0, "row"), (2, row, (FIRST, SECOND)))

    def test_the_order_of_words(self):
        self.told_is((1, "most"), (1, (), (EACH, SECOND)))
        self.told_is((0, "first"), (2, (), (SECOND,)))
        self.told_is((0, "closed"), (2, (), (FIRST,)))


class AgreeTest(Checks):

    def test_against_the_plain_words(self):
        counts = {}
        for seed in range(700):
            maker = Maker(seed)
            saying = maker.saying(7)
            most, row, stands = room_told(SMALL, saying)
            stands = list(stands)
            at = maker.random.randrange(len(stands))
            turn = maker.pick(("none", "drop", "most", "row", "strange", "shuffle"))
            if turn == "drop":
                stands.pop(at)
            if turn == "most":
                most = max(0, most + maker.pick((-1, 1)))
            if turn == "row":
                row = maker.row(SMALL, 3)
            if turn == "strange":
                stands[at:at] = [maker.pick((EACH, NONE, maker.stand(2, 2), stands[0]))]
            if turn == "shuffle":
                maker.random.shuffle(stands)
            told = (most, row, tuple(stands))
            wanted = plain_lets(SMALL, saying, told)
            self.assertEqual(ask(lets_room, SMALL, saying, told), wanted, (saying, told))
            word = wanted if wanted is True else wanted[1]["word"]
            counts[word] = counts.get(word, 0) + 1
            if wanted is True:
                self.assertEqual(most, room_told(SMALL, saying)[0])
        self.assertEqual(set(counts), {True, "most", "first", "closed", "row"})
        self.assertGreater(min(counts.values()), 10, counts)

    # With the right row and stands no other number is let by.
    def test_whoever_tells_it_most_is_the_greatest_room(self):
        for seed in range(80):
            saying = Maker(seed).saying(7)
            most, row, stands = room_told(TABLE, saying)
            for other in range(most + 3):
                told = ask(lets_room, TABLE, saying, (other, row, stands))
                self.assertEqual(told is True, other == most)
