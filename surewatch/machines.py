"""Machines searched: spots that rows come to, rows that lead to goals, and the machine of fewest spots.

Nexts are a list or tuple with, for each spot, a tuple with the spot to which each happening of a table leads.
"""

from surewatch.errors import TooMany
from surewatch.tables import happenings_of


# The spots to which rows lead from those of the begin, in the order in which they are come to.
def reached(nexts, begin):
    found = list(begin)
    seen = dict([(spot, True) for spot in begin])
    at = 0
    while at < len(found):
        leads = nexts[found[at]]
        for later in leads:
            if later not in seen:
                seen[later] = True
                found.append(later)
        at += 1
    return found


# A tuple (pairs, nexts): the pairs of spots to which rows lead from (0, 0), by the one nexts and by the other, in the
# order in which they are come to, and for each where it leads on among them.
def paired(one, other):
    pairs = [(0, 0)]
    numbers = {(0, 0): 0}
    nexts = []
    while len(nexts) < len(pairs):
        pair = pairs[len(nexts)]
        leads = []
        for later in zip(one[pair[0]], other[pair[1]]):
            if later not in numbers:
                numbers[later] = len(pairs)
                pairs.append(later)
            leads.append(numbers[later])
        nexts.append(tuple(leads))
    return (pairs, nexts)


# For each spot its steps (spot, column) from spots ahead of it.
def steps_to(nexts):
    steps = [[] for leads in nexts]
    for spot, leads in enumerate(nexts):
        for column, later in enumerate(leads):
            steps[later].append((spot, column))
    return steps


# For each spot a shortest row that leads from it to a spot whose goal is True; None where none does.
def rows_to(table, nexts, goals):
    happenings = happenings_of(table)
    steps = steps_to(nexts)
    rows = [() if goal else None for goal in goals]
    found = [spot for spot, goal in enumerate(goals) if goal]
    at = 0
    while at < len(found):
        later = found[at]
        for step in steps[later]:
            if rows[step[0]] is None:
                rows[step[0]] = (happenings[step[1]],) + rows[later]
                found.append(step[0])
        at += 1
    return rows


def rows_to_both(table, nexts, truths):
    pros = rows_to(table, nexts, truths)
    cons = rows_to(table, nexts, [not truth for truth in truths])
    return list(zip(pros, cons))


def sure_word(pro, con):
    if con is None:
        return "yes"
    if pro is None:
        return "no"
    return "open"


def sure_words(table, nexts, truths):
    return [sure_word(pro, con) for pro, con in rows_to_both(table, nexts, truths)]


# Each sign's number: signs are numbered as they are met, like ones alike.
def numbered(signs):
    numbers = {}
    for sign in signs:
        if sign not in numbers:
            numbers[sign] = len(numbers)
    return [numbers[sign] for sign in signs]


# The numbers of spots such that just those have the same one that tell the same words behind each row; numbered as
# they are met. Most, where there is one, is how many there may be: the numbers only grow more.
def told_apart(nexts, words, most):
    numbers = numbered(words)
    count = 0
    while max(numbers) >= count:
        count = max(numbers) + 1
        if most is not None and count > most:
            raise TooMany("spots")
        numbers = numbered([(numbers[spot],) + tuple([numbers[later] for later in leads])
                            for spot, leads in enumerate(nexts)])
    return numbers


# A tuple (nexts, words, groups) of the machine of fewest spots that tells the same words, numbered as they are come
# to; groups has for each of its spots the list of those that it stands for. The spots are told apart in the order
# in which they are come to, so the numbers that they get there are the ones wanted.
def least_machine(nexts, words, most):
    spots = reached(nexts, [0])
    places = {}
    for place, spot in enumerate(spots):
        places[spot] = place
    inner = [tuple([places[later] for later in nexts[spot]]) for spot in spots]
    numbers = told_apart(inner, [words[spot] for spot in spots], most)
    groups = [[] for number in range(max(numbers) + 1)]
    for place, number in enumerate(numbers):
        groups[number].append(spots[place])
    least = [tuple([numbers[places[later]] for later in nexts[group[0]]]) for group in groups]
    return (tuple(least), tuple([words[group[0]] for group in groups]), groups)
