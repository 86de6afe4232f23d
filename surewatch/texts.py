"""Sayings, rows and tables written as texts."""

from surewatch.sayings import parts_of


def words_of(saying):
    parts = parts_of(saying)
    ahead = saying[1] if saying[0] == "now" else saying[1:len(saying) - len(parts)]
    words = [saying[0]] + [str(word) for word in ahead]
    for part in parts:
        words.extend(words_of(part))
    return words


def shown(saying):
    return " ".join(words_of(saying))


def shown_pairs(pairs):
    return " ".join([pair[0] + "." + str(pair[1]) for pair in pairs])


def shown_row(row):
    if len(row) == 0:
        return "-"
    return shown_pairs(row)


def shown_table(table):
    return shown_pairs(table)
