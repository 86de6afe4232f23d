"""Texts read as sayings, rows and tables, or refused by the number of the first word at fault."""

from surewatch.errors import NoText
from surewatch.sayings import BINDERS, GREATEST_WITHIN, MOST_BINDERS, MOST_SAYINGS, MOST_WITHIN
from surewatch.sayings import bound_within, is_head, parts_wanted
from surewatch.tables import GREATEST_MOST, MOST_HAPPENINGS, MOST_NAMES, is_happening
from surewatch.words import is_name

FIGURES = {"0": 0, "1": 1, "2": 2, "3": 3, "4": 4, "5": 5, "6": 6, "7": 7, "8": 8, "9": 9}


# Goes through the words of one saying's text, and counts what is bounded.
class Reader:

    def __init__(self, words):
        self.words = words
        self.at = 0
        self.sayings = 0
        self.binders = 0

    def taken(self):
        if self.at == len(self.words):
            raise NoText(self.at)
        self.at += 1
        return self.words[self.at - 1]

    # Refuses the word that was taken last.
    def wanted(self, right):
        if not right:
            raise NoText(self.at - 1)

    def name_taken(self):
        word = self.taken()
        self.wanted(is_name(word))
        return word

    def head_taken(self, around):
        head = self.taken()
        self.sayings += 1
        if head in BINDERS:
            self.binders += 1
        self.wanted(is_head(head) and self.sayings <= MOST_SAYINGS)
        self.wanted(around < MOST_WITHIN and self.binders <= MOST_BINDERS)
        return head

    def test_taken(self, bound):
        head = self.taken()
        if head == "any":
            return ("any",)
        if head == "name":
            return ("name", self.name_taken())
        self.wanted(head in ("less", "same", "more"))
        word = self.taken()
        self.wanted(word in FIGURES or word in bound)
        return (head, FIGURES.get(word, word))

    def within_taken(self):
        word = self.taken()
        self.wanted(word in FIGURES and FIGURES[word] <= GREATEST_WITHIN)
        return FIGURES[word]

    # A saying's head and what stands behind it ahead of its parts.
    def begin_taken(self, bound, around):
        head = self.head_taken(around)
        if head == "now":
            return (head, self.test_taken(bound))
        if head == "within":
            return (head, self.within_taken())
        if head in BINDERS:
            name = self.name_taken()
            return (head, name, self.name_taken())
        return (head,)

    def saying_taken(self, bound, around):
        saying = self.begin_taken(bound, around)
        inner = bound_within(saying, bound)
        for number in range(parts_wanted(saying[0])):
            saying = saying + (self.saying_taken(inner, around + 1),)
        return saying


def read_saying(text):
    reader = Reader(text.split(" "))
    saying = reader.saying_taken((), 0)
    if reader.at < len(reader.words):
        raise NoText(reader.at)
    return saying


# A name and a figure, parted by a point; None of any other word.
def read_pair(word):
    cut = word.partition(".")
    if not is_name(cut[0]) or cut[2] not in FIGURES:
        return None
    return (cut[0], FIGURES[cut[2]])


def read_row(table, text):
    if text == "-":
        return ()
    row = []
    for at, word in enumerate(text.split(" ")):
        happening = read_pair(word)
        if not is_happening(table, happening):
            raise NoText(at)
        row.append(happening)
    return tuple(row)


def read_table(text):
    table = []
    left = MOST_HAPPENINGS
    for at, word in enumerate(text.split(" ")):
        entry = read_pair(word)
        if entry is None or entry[1] > GREATEST_MOST or at >= MOST_NAMES:
            raise NoText(at)
        left -= entry[1] + 1
        if left < 0 or entry[0] in [earlier[0] for earlier in table]:
            raise NoText(at)
        table.append(entry)
    return tuple(table)
