"""Watches, which keep little of a row, and are laid down as lines of text and taken up again."""

from surewatch.errors import NoHappening, NoText
from surewatch.going import meetings
from surewatch.machines import sure_words
from surewatch.reading import FIGURES, read_saying, read_table
from surewatch.sayings import BASICS
from surewatch.spots import columns_of
from surewatch.stands import laid, things_in
from surewatch.tables import is_happening
from surewatch.texts import shown, shown_table

MOST_FIGURES = 9


# Of the row it keeps just the spot, which is the stand to which the row leads, and how many happenings were said. All
# else is of the table and of the stand from which it goes, and stays as it is whatever is said.
class Watch:

    def __init__(self, table, saying):
        self.table = table
        self.go_from(laid(saying, True), 0)

    def go_from(self, begin, happened):
        found = meetings(self.table, begin)
        self.stands = found[0]
        self.nexts = found[1]
        self.words = sure_words(self.table, found[1], found[2])
        self.spot = 0
        self.happened = happened

    def say(self, thing):
        if not is_happening(self.table, thing):
            raise NoHappening("no happening of the table was said")
        self.spot = self.nexts[self.spot][columns_of(self.table, (thing,))[0]]
        self.happened += 1
        return self.tells()

    def tells(self):
        return self.words[self.spot]

    def room(self):
        return things_in(self.stand())

    def said(self):
        return self.happened

    def stand(self):
        return self.stands[self.spot]

    def laid_down(self):
        lines = [shown_table(self.table), "said " + str(self.happened)]
        for bunch in self.stand():
            lines.append("bunch")
            lines.extend([("on " if thing[1] else "off ") + shown(thing[0]) for thing in bunch])
        return lines


def taken_up(lines):
    return watch_by(read_lines(lines))


def watch_by(read):
    watch = Watch(read[0], ("yes",))
    watch.go_from(read[2], read[1])
    return watch


# A tuple (table, how many happenings were said, stand).
def read_lines(lines):
    table = read_first(lines)
    happened = read_said(lines)
    bunches = []
    for at, line in enumerate(lines[2:], start=2):
        take_line(bunches, line, at)
    return (table, happened, tuple([tuple(bunch) for bunch in bunches]))


def read_first(lines):
    if len(lines) == 0:
        raise NoText(0)
    try:
        return read_table(lines[0])
    except NoText:
        raise NoText(0)


def read_said(lines):
    if len(lines) == 1:
        raise NoText(1)
    cut = lines[1].partition(" ")
    if cut[0] != "said" or not is_number_text(cut[2]):
        raise NoText(1)
    return int(cut[2])


def is_number_text(text):
    if len(text) < 1 or len(text) > MOST_FIGURES or not all([sign in FIGURES for sign in text]):
        return False
    return text == "0" or text[0] != "0"


# A line behind the second is a bunch more, or a thing more in the last one.
def take_line(bunches, line, at):
    if line == "bunch":
        bunches.append([])
        return
    cut = line.partition(" ")
    if cut[0] not in ("on", "off") or len(bunches) == 0:
        raise NoText(at)
    bunches[-1].append((read_basic(cut[2], at), cut[0] == "on"))


def read_basic(text, at):
    try:
        saying = read_saying(text)
    except NoText:
        raise NoText(at)
    if saying[0] not in BASICS:
        raise NoText(at)
    return saying
