"""Bunches as whole numbers, so that putting them together and trimming stays quick.

A mark is a bunch: bit 2 * n is the thing (basic number n, True), bit 2 * n + 1 the thing (basic number n, False).
One bunch lies within another one just where all its bits are among that one's. Marks of a stand are a rising list
of the marks of its bunches, trimmed: so two stands of the same numbers are alike just where their lists are equal.
"""

NO_THINGS = 0


class Marks:

    def __init__(self):
        self.basics = []
        self.numbers = {}
        self.trues = 0

    def of_thing(self, basic, truth):
        if basic not in self.numbers:
            self.numbers[basic] = len(self.basics)
            self.trues = self.trues | (1 << (2 * len(self.basics)))
            self.basics.append(basic)
        bit = 2 * self.numbers[basic]
        return 1 << (bit if truth else bit + 1)

    def of_bunch(self, bunch):
        mark = NO_THINGS
        for thing in bunch:
            mark = mark | self.of_thing(thing[0], thing[1])
        return mark

    def of_stand(self, stand):
        return self.trim([self.of_bunch(bunch) for bunch in stand])

    def is_void(self, mark):
        return (mark & (mark >> 1) & self.trues) != 0

    # A bunch within another one is the lesser number, so it is met first.
    def trim(self, marks):
        kept = []
        for mark in sorted(set(marks)):
            if not self.is_void(mark) and not has_one_within(mark, kept):
                kept.append(mark)
        return kept

    def basics_among(self, marks):
        every = NO_THINGS
        for mark in marks:
            every = every | mark
        return (every | (every >> 1)) & self.trues

    def are_apart(self, one, other):
        return (self.basics_among(one) & self.basics_among(other)) == NO_THINGS

    # Trimmed ones that share no basic need no trimming once they are put together.
    def together(self, one, other):
        marks = []
        for mark in one:
            marks.extend([mark | more for more in other])
        if self.are_apart(one, other):
            return sorted(marks)
        return self.trim(marks)

    # Those that share basics are put together first, while they are short: only they need trimming.
    def all_together(self, several):
        groups = []
        for marks in several:
            others = []
            for group in groups:
                if self.are_apart(group, marks):
                    others.append(group)
                else:
                    marks = self.together(group, marks)
            groups = others + [marks]
        found = [NO_THINGS]
        for group in groups:
            found = self.together(found, group)
        return found

    def beside(self, one, other):
        return self.trim(one + other)

    # What is beside one another with True is put together with False, and the other way about.
    def joined(self, one, other, are_beside):
        if are_beside:
            return self.beside(one, other)
        return self.together(one, other)

    def bunch_of(self, mark):
        things = []
        while mark != NO_THINGS:
            bit = mark.bit_length() - 1
            things.append((self.basics[bit // 2], bit % 2 == 0))
            mark = mark - (1 << bit)
        return tuple(things)

    def stand_of(self, marks):
        return tuple([self.bunch_of(mark) for mark in marks])


def has_one_within(mark, marks):
    for lesser in marks:
        if (lesser & mark) == lesser:
            return True
    return False


def marks_show(one, other):
    for mark in one:
        if not has_one_within(mark, other):
            return False
    return True


def sure_marks(truth):
    return [NO_THINGS] if truth else []


# The marks of a saying with a truth, of_basic(basic, truth) telling those of each basic that stands free in it.
def marks_by(marks, saying, truth, of_basic):
    head = saying[0]
    if head == "yes" or head == "no":
        return sure_marks((head == "yes") == truth)
    if head == "not":
        return marks_by(marks, saying[1], not truth, of_basic)
    if head == "both" or head == "either":
        one = marks_by(marks, saying[1], truth, of_basic)
        other = marks_by(marks, saying[2], truth, of_basic)
        return marks.joined(one, other, (head == "either") == truth)
    return of_basic(saying, truth)


def laid_marks(marks, saying, truth):
    return marks_by(marks, saying, truth, lambda basic, turn: [marks.of_thing(basic, turn)])
