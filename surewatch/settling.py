"""A shortest row that settles a saying, or, where none does, stands that are open to both sides."""

from surewatch.going import meetings
from surewatch.machines import rows_to, rows_to_both, sure_word
from surewatch.stands import laid
from surewatch.verdicts import verdict


def settled_by(table, saying):
    found = meetings(table, laid(saying, True))
    rows = rows_to_both(table, found[1], found[2])
    row = rows_to(table, found[1], [sure_word(pro, con) != "open" for pro, con in rows])[0]
    if row is not None:
        return ("settled", row, verdict(table, saying, row))
    pros = [(stand, pair[0]) for stand, pair in zip(found[0], rows)]
    cons = [(stand, pair[1]) for stand, pair in zip(found[0], rows)]
    return ("never", tuple(pros), tuple(cons))
