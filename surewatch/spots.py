"""Spots and nexts as they stand: their form, their numbers, and the words behind rows. Nothing is searched here."""

from surewatch.tables import happenings_of, is_paper_row
from surewatch.words import is_tuple, is_whole


def is_leads(thing, width, count):
    return is_tuple(thing, width, width) and all([is_whole(spot, 0, count - 1) for spot in thing])


def is_nexts(table, thing):
    if not isinstance(thing, tuple) or len(thing) == 0:
        return False
    width = len(happenings_of(table))
    return all([is_leads(leads, width, len(thing)) for leads in thing])


# A tuple of nexts and of a tuple with a word for each spot, is_word telling which things are words.
def is_machine(table, thing, is_word):
    if not is_tuple(thing, 2, 2) or not is_nexts(table, thing[0]):
        return False
    count = len(thing[0])
    return is_tuple(thing[1], count, count) and all([is_word(word) for word in thing[1]])


# The places in leads of a row's happenings.
def columns_of(table, row):
    places = {}
    for column, happening in enumerate(happenings_of(table)):
        places[happening] = column
    return [places[happening] for happening in row]


# The words of spot 0 and of those to which the row leads from there, happening by happening.
def words_along(table, nexts, words, row):
    spot = 0
    told = [words[spot]]
    for column in columns_of(table, row):
        spot = nexts[spot][column]
        told.append(words[spot])
    return told


# The first place and word of a list of words that is sure, as a tuple; None where all are open.
def sure_among(told):
    for place, word in enumerate(told):
        if word != "open":
            return (place, word)
    return None


# For each spot the word of the spot to which the row leads from it.
def words_behind(table, nexts, words, row):
    told = list(words)
    for column in reversed(columns_of(table, row)):
        told = [told[leads[column]] for leads in nexts]
    return told


# The first spot, gone through as they are come to, that has another number than that wants, else the least one that
# is not come to; None where all is right. The spots met so far are those up to the greatest.
def misnumbered(nexts):
    greatest = 0
    spot = 0
    while spot <= greatest:
        for later in nexts[spot]:
            if later > greatest + 1:
                return later
            greatest = max(greatest, later)
        spot += 1
    if spot < len(nexts):
        return spot
    return None


# The least spot whose words behind the rows are those of a lesser one; None where there is none.
def unparted(table, nexts, words, rows):
    several = [words_behind(table, nexts, words, row) for row in rows]
    seen = {}
    for spot in range(len(nexts)):
        key = tuple([told[spot] for told in several])
        if key in seen:
            return spot
        seen[key] = True
    return None


# A tuple (places, rows): for each spot one entry or more, is_entry(spot, thing) telling which things are ones.
def is_spots_paper(table, thing, count, is_entry):
    if not is_tuple(thing, 2, 2) or not is_tuple(thing[0], count, count) or not isinstance(thing[1], tuple):
        return False
    if not all([is_paper_row(table, row) for row in thing[1]]):
        return False
    return all([is_place(spot, place, is_entry) for spot, place in enumerate(thing[0])])


def is_place(spot, thing, is_entry):
    return isinstance(thing, tuple) and len(thing) > 0 and all([is_entry(spot, entry) for entry in thing])
