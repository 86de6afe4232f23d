"""A desk: watches by name, and hands with their rounds, told of by rows of words."""

from surewatch.beside import compared
from surewatch.errors import NoName, NoRow, NoText, Twice
from surewatch.hands import Hands
from surewatch.judges import judge_of
from surewatch.reading import read_row, read_saying, read_table
from surewatch.room import Watch, read_lines, watch_by
from surewatch.rooms import room_told
from surewatch.settling import settled_by
from surewatch.texts import shown_row
from surewatch.weaving import woven
from surewatch.words import is_name

MOST_HANDS = 4
BETWEEN_LINES = " / "
# What stands behind the first word of a row: a name that no watch has yet ("free"), that of a watch, of one that was
# made of a saying, of a hand; one word; or a text of one word or more. (The names of hands are looked at apart.)
FORMS = {
    "watch": ("free", "text"), "drop": ("watch",), "take": ("free", "text"), "lay": ("watch",), "say": ("word",),
    "word": ("watch",), "room": ("watch",), "said": ("watch",), "most": ("made",), "never": ("made",),
    "compare": ("made", "made"), "judge": ("made",), "woven": ("made",), "from": ("hand", "word"), "meet": (),
}


def is_form(words):
    if words[0] == "hands":
        return are_hands(words[1:])
    if words[0] not in FORMS:
        return False
    kinds = FORMS[words[0]]
    told = words[1:]
    if len(told) < len(kinds) or (len(told) > len(kinds) and kinds[-1:] != ("text",)):
        return False
    return all([kind in ("word", "text") or is_name(word) for kind, word in zip(kinds, told)])


def are_hands(names):
    if len(names) < 1 or len(names) > MOST_HANDS or not all([is_name(name) for name in names]):
        return False
    return len(set(names)) == len(names)


def look_at_name(desk, kind, name):
    if kind == "free" and name in desk.watches:
        raise Twice(name)
    if (kind == "watch" and name not in desk.watches) or (kind == "made" and name not in desk.sayings):
        raise NoName(name)
    if kind == "hand":
        desk.hands.look_for(name)


def read_happening(table, word):
    row = read_row(table, word)
    if len(row) == 0:
        raise NoText(0)
    return row[0]


def do_watch(desk, words):
    saying = read_saying(" ".join(words[2:]))
    desk.watches[words[1]] = Watch(desk.table, saying)
    desk.sayings[words[1]] = saying
    return "ok"


def do_drop(desk, words):
    desk.watches.pop(words[1])
    desk.sayings.pop(words[1], None)
    return "ok"


def do_take(desk, words):
    read = read_lines(" ".join(words[2:]).split(BETWEEN_LINES))
    if read[0] != desk.table:
        raise NoText(0)
    desk.watches[words[1]] = watch_by(read)
    return "ok"


def do_lay(desk, words):
    return BETWEEN_LINES.join(desk.watches[words[1]].laid_down())


def do_say(desk, words):
    happening = read_happening(desk.table, words[1])
    turned = []
    for name in sorted(desk.watches):
        before = desk.watches[name].tells()
        word = desk.watches[name].say(happening)
        if word != before:
            turned.append(name + " " + word)
    return ", ".join(turned) if len(turned) > 0 else "-"


def do_word(desk, words):
    return desk.watches[words[1]].tells()


def do_room(desk, words):
    return str(desk.watches[words[1]].room())


def do_said(desk, words):
    return str(desk.watches[words[1]].said())


def do_most(desk, words):
    return str(room_told(desk.table, desk.sayings[words[1]])[0])


def do_never(desk, words):
    told = settled_by(desk.table, desk.sayings[words[1]])
    if told[0] == "never":
        return told[0]
    return " ".join([told[0], shown_row(told[1]), told[2][0]])


def do_compare(desk, words):
    return compared(desk.table, desk.sayings[words[1]], desk.sayings[words[2]])[0]


def do_judge(desk, words):
    return str(len(judge_of(desk.table, desk.sayings[words[1]])[0]))


def do_woven(desk, words):
    return woven(desk.table, desk.sayings[words[1]], desk.hands.rounds())[0]


def do_hands(desk, words):
    desk.hands = Hands(desk.table, words[1:])
    return "ok"


def do_from(desk, words):
    desk.hands.say(words[1], read_happening(desk.table, words[2]))
    return "ok"


def do_meet(desk, words):
    desk.hands.meet()
    return "ok"


DEEDS = {
    "watch": do_watch, "drop": do_drop, "take": do_take, "lay": do_lay, "say": do_say, "word": do_word,
    "room": do_room, "said": do_said, "most": do_most, "never": do_never, "compare": do_compare, "judge": do_judge,
    "woven": do_woven, "hands": do_hands, "from": do_from, "meet": do_meet,
}


# Sayings are kept of those watches alone that were made of one, not of those taken up.
class Desk:

    def __init__(self, text):
        self.table = read_table(text)
        self.watches = {}
        self.sayings = {}
        self.hands = Hands(self.table, ("one",))

    def say(self, row):
        words = row.split(" ")
        if not is_form(words):
            raise NoRow("no row of the desk's was told")
        for kind, name in zip(FORMS.get(words[0], ()), words[1:]):
            look_at_name(self, kind, name)
        return DEEDS[words[0]](self, words)
