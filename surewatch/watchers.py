"""Watchers: machines whose spots tell the verdict on the row so far."""

from surewatch.judges import judge_of
from surewatch.machines import least_machine, sure_words
from surewatch.spots import is_machine, sure_among, words_along


def is_verdict(thing):
    return thing in ("yes", "no", "open")


def is_watcher(table, thing):
    return is_machine(table, thing, is_verdict)


def watcher_by(table, judge):
    least = least_machine(judge[0], sure_words(table, judge[0], judge[1]), None)
    return (least[0], least[1])


def watcher_of(table, saying):
    return watcher_by(table, judge_of(table, saying))


def watched(table, watcher, row):
    return words_along(table, watcher[0], watcher[1], row)


def sure_at(table, watcher, row):
    return sure_among(watched(table, watcher, row))
