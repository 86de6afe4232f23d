"""The greatest room that any row leads a saying to."""

from surewatch.going import meetings
from surewatch.machines import rows_to
from surewatch.stands import laid, things_in


def room_told(table, saying):
    found = meetings(table, laid(saying, True))
    sizes = [things_in(stand) for stand in found[0]]
    most = max(sizes)
    row = rows_to(table, found[1], [size == most for size in sizes])[0]
    return (most, row, tuple(found[0]))
