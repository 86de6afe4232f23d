"""The smallest words: names, and the kinds that things are asked for."""

LETTERS = "abcdefghijklmnopqrstuvwxyz"
LONGEST_NAME = 8


# True and False are ints to Python, but no whole numbers here.
def is_whole(thing, least, most):
    if not isinstance(thing, int) or isinstance(thing, bool):
        return False
    return least <= thing and thing <= most


def is_count(thing):
    return isinstance(thing, int) and not isinstance(thing, bool) and thing >= 0


def is_tuple(thing, least, most):
    return isinstance(thing, tuple) and least <= len(thing) and len(thing) <= most


# The letters are looked up one by one: Python's own look at letters lets more by than a to z.
def is_name(thing):
    if not isinstance(thing, str) or len(thing) < 1 or len(thing) > LONGEST_NAME:
        return False
    return all([sign in LETTERS for sign in thing])
