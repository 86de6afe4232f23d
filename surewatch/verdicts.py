"""Verdicts on rows so far, told by papers, and the words of rows and stands."""

from surewatch.going import gone_by, meetings
from surewatch.machines import rows_to_both, sure_word, sure_words
from surewatch.spots import sure_among, words_along
from surewatch.stands import laid


def verdict(table, saying, row):
    found = meetings(table, gone_by(laid(saying, True), row))
    rows = rows_to_both(table, found[1], found[2])[0]
    word = sure_word(rows[0], rows[1])
    if word == "open":
        return (word, rows[0], rows[1])
    return (word, tuple(found[0]))


def word_of(table, stand):
    found = meetings(table, stand)
    return sure_words(table, found[1], found[2])[0]


def words(table, saying, row):
    found = meetings(table, laid(saying, True))
    return words_along(table, found[1], sure_words(table, found[1], found[2]), row)


def first_sure(table, saying, row):
    return sure_among(words(table, saying, row))
