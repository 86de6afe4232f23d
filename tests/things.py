"""Small sayings, stands and happenings by which the checkers are asked."""

from surewatch.errors import NoPaper
from surewatch.reading import read_saying

a, b = ("a", 0), ("b", 0)
A = ("now", ("name", "a"))
B = ("now", ("name", "b"))
SOME_A = ("some", A)
ALL_A = ("always", A)
TILL_A = ("till", ("yes",), A)
# No row settles it: it holds where the last happening is an a, or there is none.
LAST_A = ("always", SOME_A)
# It meets far more than three hundred stands by a table of many numbers.
MANY = read_saying("each a x each b y some both now same x next now same y")
# The stands that no row fits, and that each does.
NONE = ()
EACH = ((),)


# A stand of one bunch, all with True.
def stand(*basics):
    return (tuple((basic, True) for basic in basics),)


def no_paper(place, word):
    return (NoPaper, {"place": place, "word": word})
