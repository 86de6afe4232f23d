"""What the ops say, and the small checker of judges put together, which searches nothing."""

from surewatch.errors import NoJoin
from surewatch.judges import is_judge
from surewatch.spots import is_spots_paper, misnumbered, unparted
from surewatch.words import is_tuple, is_whole


def by_op(op, one, other):
    if op == "both":
        return one and other
    if op == "either":
        return one or other
    if op == "but":
        return one and not other
    return one != other


def lets_joined(table, op, one, other, judge, paper):
    if not is_judge(table, judge) or not is_join_paper(table, one, other, judge, paper):
        raise NoJoin("shape", 0)
    look_at_begin(judge[0], paper[0])
    for spot, place in enumerate(paper[0]):
        if not all([by_op(op, one[1][pair[0]], other[1][pair[1]]) == judge[1][spot] for pair in place]):
            raise NoJoin("end", spot)
    look_at_nexts(one, other, judge, paper[0])
    spot = unparted(table, judge[0], judge[1], paper[1])
    if spot is not None:
        raise NoJoin("part", spot)
    return True


def is_join_paper(table, one, other, judge, thing):
    return is_spots_paper(table, thing, len(judge[0]), lambda spot, entry: is_pair(one, other, entry))


def is_pair(one, other, thing):
    if not is_tuple(thing, 2, 2):
        return False
    return is_whole(thing[0], 0, len(one[0]) - 1) and is_whole(thing[1], 0, len(other[0]) - 1)


def look_at_begin(nexts, places):
    spot = misnumbered(nexts)
    if spot is not None:
        raise NoJoin("number", spot)
    if (0, 0) not in places[0]:
        raise NoJoin("begin", 0)


def look_at_nexts(one, other, judge, places):
    known = [dict([(pair, True) for pair in place]) for place in places]
    for spot, place in enumerate(places):
        for pair in place:
            for first, second, later in zip(one[0][pair[0]], other[0][pair[1]], judge[0][spot]):
                if (first, second) not in known[later]:
                    raise NoJoin("next", spot)
