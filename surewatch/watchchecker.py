"""The small checkers of judges and watchers: they look at each spot, its stands and its nexts, and search nothing."""

from surewatch.bunches import laid_marks
from surewatch.errors import NoWatch
from surewatch.going import Walker
from surewatch.judges import is_judge
from surewatch.spots import is_spots_paper, misnumbered, unparted
from surewatch.stands import ends, fits_stand, is_stand
from surewatch.tables import happenings_of, is_paper_row
from surewatch.watchers import is_watcher
from surewatch.words import is_tuple


def lets_judge(table, saying, judge, paper):
    if not is_judge(table, judge) or not is_judge_paper(table, judge, paper):
        raise NoWatch("shape", 0)
    look_at_begin(saying, judge[0], paper[0])
    for spot, stands in enumerate(paper[0]):
        if not all([ends(stand) == judge[1][spot] for stand in stands]):
            raise NoWatch("end", spot)
    look_at_nexts(table, judge[0], paper[0])
    look_at_parting(table, judge, paper[1])
    return True


def lets_watcher(table, saying, watcher, paper):
    if not is_watcher(table, watcher) or not is_watcher_paper(table, watcher, paper):
        raise NoWatch("shape", 0)
    places = [[entry[0] for entry in place] for place in paper[0]]
    look_at_begin(saying, watcher[0], places)
    for spot, place in enumerate(paper[0]):
        if not is_verdict_right(watcher, spot, place):
            raise NoWatch(watcher[1][spot], spot)
    look_at_nexts(table, watcher[0], places)
    look_at_parting(table, watcher, paper[1])
    return True


def is_judge_paper(table, judge, thing):
    return is_spots_paper(table, thing, len(judge[0]), lambda spot, entry: is_stand(entry))


def is_watcher_paper(table, watcher, thing):
    return is_spots_paper(table, thing, len(watcher[0]), lambda spot, entry: is_entry(table, watcher[1][spot], entry))


def is_entry(table, word, thing):
    if word != "open":
        return is_tuple(thing, 1, 1) and is_stand(thing[0])
    if not is_tuple(thing, 3, 3) or not is_stand(thing[0]):
        return False
    return is_paper_row(table, thing[1]) and is_paper_row(table, thing[2])


# A stand gone on by a row ends just where the row fits it, which is the shorter way.
def is_verdict_right(watcher, spot, place):
    word = watcher[1][spot]
    if word == "open":
        return all([fits_stand(entry[0], entry[1]) and not fits_stand(entry[0], entry[2]) for entry in place])
    if not all([watcher[1][later] == word for later in watcher[0][spot]]):
        return False
    return all([ends(entry[0]) == (word == "yes") for entry in place])


def look_at_begin(saying, nexts, places):
    spot = misnumbered(nexts)
    if spot is not None:
        raise NoWatch("number", spot)
    marks = Walker().marks
    if laid_marks(marks, saying, True) not in [marks.of_stand(stand) for stand in places[0]]:
        raise NoWatch("begin", 0)


def look_at_nexts(table, nexts, places):
    walker = Walker()
    marks = [[walker.marks.of_stand(stand) for stand in place] for place in places]
    for spot, place in enumerate(marks):
        for column, happening in enumerate(happenings_of(table)):
            wanted = marks[nexts[spot][column]]
            if not all([walker.stand_on(stand, happening) in wanted for stand in place]):
                raise NoWatch("next", spot)


def look_at_parting(table, machine, rows):
    spot = unparted(table, machine[0], machine[1], rows)
    if spot is not None:
        raise NoWatch("part", spot)
