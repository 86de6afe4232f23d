"""How the rows lie that fit two sayings: alike, one within the other, or parted."""

from surewatch.going import meetings
from surewatch.machines import paired, rows_to
from surewatch.stands import laid


def compared(table, one, other):
    ones = meetings(table, laid(one, True))
    others = meetings(table, laid(other, True))
    found = paired(ones[1], others[1])
    truths = [(ones[2][pair[0]], others[2][pair[1]]) for pair in found[0]]
    one_row = rows_to(table, found[1], [first and not second for first, second in truths])[0]
    other_row = rows_to(table, found[1], [second and not first for first, second in truths])[0]
    if one_row is not None and other_row is not None:
        return ("parted", one_row, other_row)
    there = tuple([(ones[0][pair[0]], others[0][pair[1]]) for pair in found[0]])
    back = tuple([(second, first) for first, second in there])
    if one_row is not None:
        return ("around", back, one_row)
    if other_row is not None:
        return ("within", there, other_row)
    return ("alike", there, back)
