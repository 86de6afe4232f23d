"""Stands by numbers, for checkers: each stand that comes up is trimmed, gone on and held beside others only once."""

from surewatch.bunches import laid_marks, marks_show
from surewatch.going import Walker


# Alike stands have the same number.
class Numbering:

    def __init__(self):
        self.walker = Walker()
        self.several = []
        self.by_marks = {}
        self.by_stand = {}
        self.laters = {}
        self.showings = {}

    def of_marks(self, marks):
        key = tuple(marks)
        if key not in self.by_marks:
            self.by_marks[key] = len(self.several)
            self.several.append(marks)
        return self.by_marks[key]

    def of_stand(self, stand):
        if stand not in self.by_stand:
            self.by_stand[stand] = self.of_marks(self.walker.marks.of_stand(stand))
        return self.by_stand[stand]

    def of_stands(self, stands):
        return [self.of_stand(stand) for stand in stands]

    def of_saying(self, saying):
        return self.of_marks(laid_marks(self.walker.marks, saying, True))

    def later(self, number, happening):
        key = (number, happening)
        if key not in self.laters:
            self.laters[key] = self.of_marks(self.walker.stand_on(self.several[number], happening))
        return self.laters[key]

    def later_by(self, number, row):
        for happening in row:
            number = self.later(number, happening)
        return number

    def shows_other(self, one, other):
        key = (one, other)
        if key not in self.showings:
            self.showings[key] = marks_show(self.several[one], self.several[other])
        return self.showings[key]

    # With True some of the numbers has to show this one, with False this one has to show some of them. Papers told
    # here mostly have the very stand, so this is looked for first.
    def is_held(self, number, numbers, truth):
        if number in numbers:
            return True
        for other in numbers:
            if truth and self.shows_other(other, number):
                return True
            if not truth and self.shows_other(number, other):
                return True
        return False

    # Whether a number, gone on by each of the happenings, is held by the numbers.
    def is_led_on(self, number, numbers, happenings, truth):
        for happening in happenings:
            if not self.is_held(self.later(number, happening), numbers, truth):
                return False
        return True
