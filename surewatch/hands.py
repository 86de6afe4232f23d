"""Hands that tell happenings, and meet: the rounds that come of it."""

from surewatch.errors import NoHappening, NoName, TooMany
from surewatch.tables import is_happening

MOST_ROUNDS = 4
MOST_IN_A_ROUND = 8


class Hands:

    def __init__(self, table, names):
        self.table = table
        self.names = tuple(names)
        self.kept = []
        self.meet()

    def look_for(self, hand):
        if hand not in self.names:
            raise NoName(hand)

    def say(self, hand, thing):
        self.look_for(hand)
        if not is_happening(self.table, thing):
            raise NoHappening("no happening of the table was told")
        rows = self.kept[-1]
        if sum([len(row) for row in rows]) == MOST_IN_A_ROUND:
            raise TooMany("happenings")
        rows[self.names.index(hand)].append(thing)

    def meet(self):
        if len(self.kept) == MOST_ROUNDS:
            raise TooMany("rounds")
        self.kept.append([[] for name in self.names])

    def rounds(self):
        return tuple([tuple([tuple(row) for row in rows]) for rows in self.kept])
