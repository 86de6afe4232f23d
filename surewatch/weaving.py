"""What is sure of rounds, in whatever order the hands' happenings come."""

from surewatch.going import meetings
from surewatch.hands import Hands
from surewatch.machines import reached, rows_to_both
from surewatch.spots import columns_of
from surewatch.stands import laid
from surewatch.weavechecker import positions_of, stepped


def woven(table, saying, rounds):
    return woven_by(table, meetings(table, laid(saying, True)), rounds)


# Found is what the saying meets.
def woven_by(table, found, rounds):
    places = []
    orders = {0: ()}
    for rows in rounds:
        place = walked(table, found[1], rows, orders)
        places.append(place)
        orders = place[positions_of(rows)[-1]]
    going_on = rows_to_both(table, found[1], found[2])
    pros = [spot for spot in orders if going_on[spot][0] is not None]
    cons = [spot for spot in orders if going_on[spot][1] is not None]
    if len(pros) > 0 and len(cons) > 0:
        pro = (orders[pros[0]], going_on[pros[0]][0])
        return ("open", pro, (orders[cons[0]], going_on[cons[0]][1]))
    told = tuple([place_told(found[0], place) for place in places])
    last = stands_told(found[0], reached(found[1], list(orders)))
    return ("yes" if len(cons) == 0 else "no", told, last)


# A dict with, for each positions of a round, a dict with the spots to which orders lead there, and for each of them
# such orders, the last one up to there. Begin has them behind the round ahead. Each positions is come to behind all
# that lead to it, as these are less.
def walked(table, nexts, rows, begin):
    several = positions_of(rows)
    place = dict([(positions, {}) for positions in several])
    for spot in begin:
        place[several[0]][spot] = begin[spot] + ((),)
    columns = [columns_of(table, row) for row in rows]
    for positions in several:
        for hand, row in enumerate(rows):
            if positions[hand] < len(row):
                later = place[stepped(positions, hand)]
                step(nexts, place[positions], later, columns[hand][positions[hand]], hand)
    return place


# Leads the spots on by the hand's happening of this column.
def step(nexts, ahead, later, column, hand):
    for spot in ahead:
        orders = ahead[spot]
        later.setdefault(nexts[spot][column], orders[:-1] + (orders[-1] + (hand,),))


def place_told(stands, place):
    return tuple([(positions, stands_told(stands, place[positions])) for positions in place])


def stands_told(stands, spots):
    return tuple([stands[spot] for spot in spots])


class Weave:

    def __init__(self, table, saying, hands):
        self.table = table
        self.found = meetings(table, laid(saying, True))
        self.hands = Hands(table, hands)

    def say(self, hand, thing):
        self.hands.say(hand, thing)

    def meet(self):
        self.hands.meet()

    def rounds(self):
        return self.hands.rounds()

    def tells(self):
        return self.told()[0]

    def told(self):
        return woven_by(self.table, self.found, self.rounds())
