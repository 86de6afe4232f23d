"""Judges put together, with papers that are let by."""

from surewatch.joining import least_joined
from surewatch.partings import parting_rows


def join_paper(table, op, one, other):
    least = least_joined(op, one, other)
    places = tuple([tuple(group) for group in least[2]])
    return ((least[0], least[1]), (places, parting_rows(table, least[0], least[1])))
