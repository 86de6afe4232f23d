import unittest

from surewatch.errors import NoPaper, TooMany
from surewatch.reading import read_row, read_saying
from surewatch.room import Watch
from surewatch.roomchecker import lets_room
from surewatch.rooms import room_told
from surewatch.stands import alike, is_stand, laid
from surewatch.tables import is_row
from tests.plain import (ONE_MORE, SMALL, TABLE, THREE_HUNDRED, TWO, WIDE, Maker, ask, bent, is_trimmed, plain_by,
                         plain_laid, plain_met, plain_room, rows_up_to)


class RoomToldTest(unittest.TestCase):

    def told(self, saying, table=TWO):
        told = ask(room_told, table, saying)
        self.assertEqual([type(told)] + [type(part) for part in told], [tuple, int, tuple, tuple])
        self.assertIs(is_row(table, told[1]), True)
        self.assertTrue(all(is_stand(stand) and is_trimmed(stand) for stand in told[2]))
        self.assertIs(ask(lets_room, table, saying, told), True, saying)
        return told

    def test_rooms(self):
        for text, most, row in (("yes", 0, "-"), ("no", 0, "-"), ("some now name a", 1, "-"),
                                ("always some now name a", 2, "b.0"), ("now any", 1, "-"), ("next next yes", 1, "-"),
                                ("both some now name a some now name b", 2, "-"),
                                ("always either now name a next some now name a", 2, "b.0"),
                                ("next always some now name a", 2, None)):
            told = self.told(read_saying(text))
            self.assertEqual(told[0], most, text)
            if row is not None:
                self.assertEqual(told[1], read_row(TWO, row))

    def test_each_stand_that_is_met_is_there(self):
        for seed in range(80):
            saying = Maker(seed).saying()
            told = self.told(saying, SMALL)
            for stand in plain_met(SMALL, laid(saying, True)):
                self.assertTrue(any(alike(stand, other) for other in told[2]))

    def test_against_rows_gone_through_one_by_one(self):
        for seed in range(80):
            saying = Maker(seed).saying(6)
            if len(plain_met(TWO, laid(saying, True))) > 6:
                continue
            told = self.told(saying)
            rooms = [(plain_room(plain_by(plain_laid(saying, True), row)), row) for row in rows_up_to(TWO, 5)]
            most = max(room for room, row in rooms)
            self.assertEqual((told[0], len(told[1])), (most, min(len(row) for room, row in rooms if room == most)))
            self.assertIn((most, told[1]), rooms)

    def test_no_watch_has_more(self):
        for seed in range(80):
            maker = Maker(seed)
            saying = maker.saying()
            most, row, stands = self.told(saying, TABLE)
            watch = Watch(TABLE, saying)
            for happening in maker.row(TABLE, 20):
                self.assertLessEqual(watch.room(), most)
                watch.say(happening)
            watch = Watch(TABLE, saying)
            for happening in row:
                watch.say(happening)
            self.assertEqual(watch.room(), most)

    def test_bent_in_one_place_it_is_refused(self):
        saying = read_saying("always some now name a")
        told = self.told(saying)
        for path, other in (((0,), 1), ((0,), 3), ((1,), ()), ((2,), told[2][:1]), ((2,), told[2][1:]), ((2, 0), ()),
                            ((2, 1), ((),)), ((2, 0, 0, 0, 1), False)):
            with self.assertRaises(NoPaper, msg=(path, other)):
                lets_room(TWO, saying, bent(told, path, other))

    def test_more_than_three_hundred_stands(self):
        self.assertEqual(ask(room_told, WIDE, ONE_MORE), (TooMany, {"word": "stands"}))
        self.assertEqual(len(self.told(THREE_HUNDRED, TABLE)[2]), 300)
