"""Rows that part spots: the first one for two spots, and such as part all."""

from surewatch.machines import numbered
from surewatch.tables import happenings_of


# Pairs of spots are come to in the order of the rows that lead there from the first one.
def parting(table, nexts, words, one, other):
    happenings = happenings_of(table)
    found = [(one, other)]
    rows = {(one, other): ()}
    at = 0
    while at < len(found):
        pair = found[at]
        if words[pair[0]] != words[pair[1]]:
            return rows[pair]
        for column, happening in enumerate(happenings):
            later = (nexts[pair[0]][column], nexts[pair[1]][column])
            if later[0] != later[1] and later not in rows:
                rows[later] = rows[pair] + (happening,)
                found.append(later)
        at += 1
    return None


# A tuple (one, other, column): two spots with the same number that the happening of the column leads to spots with
# unlike numbers; None where there are none.
def split_of(nexts, numbers):
    for column in range(len(nexts[0])):
        firsts = {}
        for spot, leads in enumerate(nexts):
            first = firsts.setdefault(numbers[spot], spot)
            if numbers[nexts[first][column]] != numbers[leads[column]]:
                return (first, spot, column)
    return None


# Spots have the same number where the rows so far don't part them. Each row more parts some that were not, so there
# are never more rows than spots.
def parting_rows(table, nexts, words):
    happenings = happenings_of(table)
    rows = [()]
    several = [list(words)]
    numbers = numbered(words)
    while max(numbers) + 1 < len(nexts):
        split = split_of(nexts, numbers)
        if split is None:
            return None
        column = split[2]
        at = first_unlike(several, nexts[split[0]][column], nexts[split[1]][column])
        rows.append((happenings[column],) + rows[at])
        told = [several[at][leads[column]] for leads in nexts]
        several.append(told)
        numbers = numbered(list(zip(numbers, told)))
    return tuple(rows)


def first_unlike(several, one, other):
    at = 0
    while several[at][one] == several[at][other]:
        at += 1
    return at
