"""Sayings and stands gone on by happenings, and the stands that a stand meets."""

from surewatch.bunches import Marks, laid_marks, marks_by, sure_marks
from surewatch.errors import TooMany
from surewatch.sayings import BINDERS, put_for
from surewatch.stands import ends
from surewatch.tables import happenings_of, passes

MOST_STANDS = 300


def saying_on(marks, saying, truth, happening):
    return marks_by(marks, saying, truth, lambda basic, turn: basic_on(marks, basic, turn, happening))


def basic_on(marks, basic, truth, happening):
    head = basic[0]
    if head == "now":
        return sure_marks(passes(basic[1], happening) == truth)
    if head == "next":
        return laid_marks(marks, basic[1], truth)
    if head == "within":
        return within_on(marks, basic, truth, happening)
    itself = [marks.of_thing(basic, truth)]
    if head in BINDERS:
        if happening[0] != basic[1]:
            return itself
        part = saying_on(marks, put_for(basic[3], basic[2], happening[1]), truth, happening)
        return marks.joined(part, itself, (head == "one") == truth)
    part = saying_on(marks, basic[1], truth, happening)
    if head == "some":
        return marks.joined(part, itself, truth)
    stays = marks.joined(part, itself, not truth)
    if head == "always":
        return stays
    comes = saying_on(marks, basic[2], truth, happening)
    return marks.joined(comes, stays, truth)


def within_on(marks, basic, truth, happening):
    n = basic[1]
    if n == 0:
        return sure_marks(not truth)
    part = saying_on(marks, basic[2], truth, happening)
    if n == 1:
        return part
    rest = [marks.of_thing(("within", n - 1, basic[2]), truth)]
    return marks.joined(part, rest, truth)


# Goes on with marks. It keeps what it worked out: the same bunches come up in many stands.
class Walker:

    def __init__(self):
        self.marks = Marks()
        self.known = {}

    def bunch_on(self, mark, happening):
        key = (mark, happening)
        if key not in self.known:
            self.known[key] = self.bunch_worked_out(mark, happening)
        return self.known[key]

    def bunch_worked_out(self, mark, happening):
        things = self.marks.bunch_of(mark)
        if len(things) == 1:
            return saying_on(self.marks, things[0][0], things[0][1], happening)
        single = [self.marks.of_thing(thing[0], thing[1]) for thing in things]
        return self.marks.all_together([self.bunch_on(bit, happening) for bit in single])

    def stand_on(self, stand, happening):
        later = []
        for mark in stand:
            later.extend(self.bunch_on(mark, happening))
        return self.marks.trim(later)

    def stand_by(self, stand, row):
        for happening in row:
            stand = self.stand_on(stand, happening)
        return stand


def gone_saying(saying, truth, happening):
    marks = Marks()
    return marks.stand_of(saying_on(marks, saying, truth, happening))


def gone(stand, happening):
    return gone_by(stand, (happening,))


def gone_by(stand, row):
    walker = Walker()
    return walker.marks.stand_of(walker.stand_by(walker.marks.of_stand(stand), row))


def met(table, stand):
    return meetings(table, stand)[0]


# A tuple of the stands that a stand meets; for each of them a tuple with the number, among them, of the stand that it
# goes on to by each happening of the table; and for each whether it ends.
def meetings(table, stand):
    walker = Walker()
    found = [walker.marks.of_stand(stand)]
    numbers = {tuple(found[0]): 0}
    happenings = happenings_of(table)
    nexts = []
    while len(nexts) < len(found):
        stand_now = found[len(nexts)]
        leads = []
        for happening in happenings:
            later = walker.stand_on(stand_now, happening)
            key = tuple(later)
            if key not in numbers:
                if len(found) == MOST_STANDS:
                    raise TooMany("stands")
                numbers[key] = len(found)
                found.append(later)
            leads.append(numbers[key])
        nexts.append(tuple(leads))
    stands = [walker.marks.stand_of(marks) for marks in found]
    return (stands, nexts, [ends(one) for one in stands])
