"""Rounds of hands, their orders, and the small checker of verdicts on rounds, which searches nothing."""

from surewatch.errors import NoPaper
from surewatch.meaning import fits
from surewatch.numbering import Numbering
from surewatch.stands import are_stands, ends
from surewatch.tables import happenings_of, is_paper_row
from surewatch.words import is_tuple, is_whole


def woven_row(rounds, orders):
    row = []
    for rows, order in zip(rounds, orders):
        stood = [0 for hand in rows]
        for hand in order:
            row.append(rows[hand][stood[hand]])
            stood[hand] += 1
    return tuple(row)


# All positions of a round, rising.
def positions_of(rows):
    found = [()]
    for row in rows:
        longer = []
        for ahead in found:
            longer.extend([ahead + (k,) for k in range(len(row) + 1)])
        found = longer
    return found


# The positions with one more of the hand.
def stepped(positions, hand):
    return positions[:hand] + (positions[hand] + 1,) + positions[hand + 1:]


def lets_woven(table, saying, rounds, thing):
    if not is_woven(table, rounds, thing):
        raise NoPaper(0, "shape")
    if thing[0] == "open":
        return lets_open(saying, rounds, thing[1:])
    return lets_sure(table, saying, rounds, thing)


def is_woven(table, rounds, thing):
    if not is_tuple(thing, 3, 3):
        return False
    if thing[0] == "open":
        return is_going_on(table, thing[1]) and is_going_on(table, thing[2])
    known = {}
    return thing[0] in ("yes", "no") and are_places(rounds, thing[1], known) and are_some_stands(thing[2], known)


def is_going_on(table, thing):
    return is_tuple(thing, 2, 2) and is_paper_row(table, thing[1])


def are_places(rounds, thing, known):
    if not is_tuple(thing, len(rounds), len(rounds)):
        return False
    return all([are_entries(positions_of(rows), place, known) for rows, place in zip(rounds, thing)])


def are_entries(several, thing, known):
    if not is_tuple(thing, len(several), len(several)):
        return False
    return all([is_entry(positions, entry, known) for positions, entry in zip(several, thing)])


def is_entry(positions, thing, known):
    if not is_tuple(thing, 2, 2) or not is_tuple(thing[0], len(positions), len(positions)):
        return False
    if not all([is_whole(told, k, k) for told, k in zip(thing[0], positions)]):
        return False
    return are_some_stands(thing[1], known)


def are_some_stands(thing, known):
    return are_stands(thing, known) and len(thing) > 0


def is_order(rows, thing):
    if not isinstance(thing, tuple) or not all([is_whole(hand, 0, len(rows) - 1) for hand in thing]):
        return False
    return all([thing.count(hand) == len(row) for hand, row in enumerate(rows)])


def are_orders(rounds, thing):
    if not is_tuple(thing, len(rounds), len(rounds)):
        return False
    return all([is_order(rows, order) for rows, order in zip(rounds, thing)])


def lets_open(saying, rounds, told):
    for place, part in enumerate(told):
        if not are_orders(rounds, part[0]):
            raise NoPaper(place, "orders")
    for place, part in enumerate(told):
        if fits(saying, woven_row(rounds, part[0]) + part[1]) != (place == 0):
            raise NoPaper(place, "row")
    return True


def lets_sure(table, saying, rounds, thing):
    truth = thing[0] == "yes"
    numbering = Numbering()
    places = [[numbering.of_stands(entry[1]) for entry in place] for place in thing[1]]
    last = numbering.of_stands(thing[2])
    look_at_begins(numbering, numbering.of_saying(saying), places + [[last]], truth)
    look_at_steps(numbering, rounds, places, truth)
    for n, stand in enumerate(thing[2]):
        if ends(stand) != truth:
            raise NoPaper(n, "ends")
    happenings = happenings_of(table)
    for n, number in enumerate(last):
        if not numbering.is_led_on(number, last, happenings, truth):
            raise NoPaper(n, "closed")
    return True


# The last stands are begun like a round more. What each has to begin with is where the one ahead of it came to.
def look_at_begins(numbering, begin, places, truth):
    ahead = [begin]
    for k, place in enumerate(places):
        if not all([numbering.is_held(number, place[0], truth) for number in ahead]):
            raise NoPaper(k, "begin")
        ahead = place[-1]


def look_at_steps(numbering, rounds, places, truth):
    n = 0
    for rows, place in zip(rounds, places):
        numbers = dict(zip(positions_of(rows), place))
        for positions in numbers:
            if not are_steps(numbering, rows, numbers, positions, truth):
                raise NoPaper(n, "step")
            n += 1


def are_steps(numbering, rows, numbers, positions, truth):
    for hand, row in enumerate(rows):
        if positions[hand] < len(row):
            happening = row[positions[hand]]
            wanted = numbers[stepped(positions, hand)]
            laters = [numbering.later(number, happening) for number in numbers[positions]]
            if not all([numbering.is_held(later, wanted, truth) for later in laters]):
                return False
    return True
