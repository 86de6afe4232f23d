"""The refusals: one base, and straight under it a class for each."""


class SureError(ValueError):
    pass


class NoText(SureError):

    def __init__(self, at):
        self.at = at


class NoPaper(SureError):

    def __init__(self, place, word):
        self.place = place
        self.word = word


class NoWatch(SureError):

    def __init__(self, word, number):
        self.word = word
        self.number = number


class NoJoin(SureError):

    def __init__(self, word, number):
        self.word = word
        self.number = number


class NoBeside(SureError):

    def __init__(self, word, number):
        self.word = word
        self.number = number


class NoRing(SureError):

    def __init__(self, word, number):
        self.word = word
        self.number = number


class TooMany(SureError):

    def __init__(self, word):
        self.word = word


class NoName(SureError):

    def __init__(self, name):
        self.name = name


class Twice(SureError):

    def __init__(self, name):
        self.name = name


class NoHappening(SureError):

    def __init__(self, text):
        self.text = text


class NoRow(SureError):

    def __init__(self, text):
        self.text = text
