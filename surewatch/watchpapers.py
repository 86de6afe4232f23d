"""The judge and the watcher of a saying, each with a paper that is let by."""

from surewatch.going import meetings
from surewatch.machines import least_machine, rows_to_both, sure_word
from surewatch.partings import parting_rows
from surewatch.stands import laid


def judge_paper(table, saying):
    found = meetings(table, laid(saying, True))
    return least_with_paper(table, found[1], found[2], found[0])


def watcher_paper(table, saying):
    found = meetings(table, laid(saying, True))
    rows = rows_to_both(table, found[1], found[2])
    verdicts = [sure_word(pro, con) for pro, con in rows]
    entries = [entry_of(stand, pair) for stand, pair in zip(found[0], rows)]
    return least_with_paper(table, found[1], verdicts, entries)


def entry_of(stand, rows):
    if sure_word(rows[0], rows[1]) == "open":
        return (stand, rows[0], rows[1])
    return (stand,)


# The machine of fewest spots that tells the words, and its paper: for each of its spots the entries of those that it
# stands for. No two spots of it tell the same behind all rows, so there are rows that part them.
def least_with_paper(table, nexts, words, entries):
    least = least_machine(nexts, words, None)
    places = [tuple([entries[spot] for spot in group]) for group in least[2]]
    return ((least[0], least[1]), (tuple(places), parting_rows(table, least[0], least[1])))
