import importlib
import inspect
import unittest

# What the document's interface has of functions and classes, with their parameters in their order.
INTERFACE = {
    "words": ("is_name(thing)",),
    "tables": ("is_table(thing)", "is_happening(table, thing)", "is_row(table, thing)", "is_test(thing)",
               "happenings_of(table)", "passes(test, happening)"),
    "sayings": ("is_saying(thing)", "is_basic(thing)", "size(saying)", "depth(saying)", "names_in(saying)",
                "open_in(saying)", "put_for(saying, x, k)"),
    "meaning": ("holds(saying, row, place)", "fits(saying, row)"),
    "texts": ("shown(saying)", "shown_row(row)", "shown_table(table)"),
    "reading": ("read_saying(text)", "read_row(table, text)", "read_table(text)"),
    "stands": ("is_stand(thing)", "trimmed(stand)", "alike(one, other)", "laid(saying, truth)", "shows(one, other)",
               "ends(stand)", "fits_stand(stand, row)"),
    "going": ("gone_saying(saying, truth, happening)", "gone(stand, happening)", "gone_by(stand, row)",
              "met(table, stand)"),
    "checker": ("lets_verdict(table, saying, row, told)",),
    "verdicts": ("verdict(table, saying, row)", "word_of(table, stand)", "words(table, saying, row)",
                 "first_sure(table, saying, row)"),
    "judges": ("is_judge(table, thing)", "led(table, nexts, spot, row)", "judged(table, judge, row)",
               "first_rows(table, nexts)", "least_judge(table, judge)", "judge_of(table, saying)"),
    "partings": ("parting(table, nexts, words, one, other)", "parting_rows(table, nexts, words)"),
    "watchers": ("is_watcher(table, thing)", "watcher_by(table, judge)", "watcher_of(table, saying)",
                 "watched(table, watcher, row)", "sure_at(table, watcher, row)"),
    "watchchecker": ("lets_judge(table, saying, judge, paper)", "lets_watcher(table, saying, watcher, paper)"),
    "watchpapers": ("judge_paper(table, saying)", "watcher_paper(table, saying)"),
    "joining": ("joined(table, op, one, other)", "turned(table, judge)"),
    "joinchecker": ("lets_joined(table, op, one, other, judge, paper)",),
    "joinpapers": ("join_paper(table, op, one, other)",),
    "besidechecker": ("pairs_show(table, one, other, pairs)", "lets_beside(table, one, other, told)"),
    "beside": ("compared(table, one, other)",),
    "ringchecker": ("lets_settling(table, saying, told)",),
    "settling": ("settled_by(table, saying)",),
    "room": ("Watch(table, saying)", "taken_up(lines)"),
    "roomchecker": ("room_of(stand)", "lets_room(table, saying, thing)"),
    "rooms": ("room_told(table, saying)",),
    "weaving": ("woven(table, saying, rounds)", "Weave(table, saying, hands)"),
    "weavechecker": ("woven_row(rounds, orders)", "lets_woven(table, saying, rounds, thing)"),
    "desk": ("Desk(text)",),
}
# And of the methods of classes.
METHODS = {
    ("room", "Watch"): ("say(self, thing)", "tells(self)", "room(self)", "said(self)", "stand(self)",
                        "laid_down(self)"),
    ("weaving", "Weave"): ("say(self, hand, thing)", "meet(self)", "rounds(self)", "tells(self)", "told(self)"),
    ("desk", "Desk"): ("say(self, row)",),
}


class InterfaceTest(unittest.TestCase):

    def are_there(self, held, lines):
        for line in lines:
            name = line.partition("(")[0]
            self.assertEqual(name + str(inspect.signature(getattr(held, name))), line)

    def test_functions_and_classes_are_there_under_their_names(self):
        for module, lines in INTERFACE.items():
            self.are_there(importlib.import_module(f"surewatch.{module}"), lines)

    def test_methods_are_there_under_their_names(self):
        for (module, kind), lines in METHODS.items():
            self.are_there(getattr(importlib.import_module(f"surewatch.{module}"), kind), lines)
