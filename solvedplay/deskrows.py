"""The rows that a desk is asked, read."""

from solvedplay.errors import BadRow
from solvedplay.games import SIGNS, is_name
from solvedplay.gametext import game_in
from solvedplay.kinds import is_text_of
from solvedplay.variants import PARTS
from solvedplay.words import number_in

PARTING = " / "
GREATEST_NUMBER = 400
DEEPEST = 40


def game_parts(rest):
    try:
        return (game_in(rest.replace(PARTING, "\n")),)
    except BadRow:
        return None


def name_parts(rest):
    return (rest,) if is_name(rest) else None


def change_parts(rest):
    name, blank, text = rest.partition(" ")
    change = change_in(text.split(" "))
    return (name, change) if is_name(name) and change is not None else None


def standing_parts(rest):
    words = rest.split(" ")
    if len(words) != 3 or not is_name(words[0]):
        return None
    standing = any_standing_in(words[1], words[2])
    return None if standing is None else (words[0], standing)


def within_parts(rest):
    ahead, blank, last = rest.rpartition(" ")
    parts = standing_parts(ahead)
    deep = number_in(last, 0, DEEPEST)
    return None if parts is None or deep is None else (*parts, deep)


def mistakes_parts(rest):
    name, blank, text = rest.partition(" ")
    return (name, text.replace(PARTING, "\n")) if is_name(name) and text != "" else None


def again_parts(rest):
    many = number_in(rest, 1, GREATEST_NUMBER)
    return None if many is None else (many,)


# What reads all that stands behind the first word and a blank.
READERS = {
    "put": game_parts,
    "would": game_parts,
    "vary": change_parts,
    "drop": name_parts,
    "text": name_parts,
    "editions": name_parts,
    "known": name_parts,
    "moves": standing_parts,
    "worth": standing_parts,
    "line": standing_parts,
    "round": standing_parts,
    "alike": standing_parts,
    "within": within_parts,
    "mistakes": mistakes_parts,
    "again": again_parts,
}
# Rows of one word.
ALONE = ("undo", "names", "reckoned")


def deskrow_in(text):
    """The tuple of a row's first word and what stands behind it; BadRow of what isn't so written."""
    word, blank, rest = text.partition(" ")
    parts = parts_in(word, blank, rest)
    if parts is None or "\n" in text:
        raise BadRow(text)
    return (word, *parts)


def parts_in(word, blank, rest):
    """The tuple of what stands behind the first word; None where it isn't so written."""
    if blank == "":
        return () if word in ALONE else None
    if word not in READERS:
        return None
    reader = READERS[word]
    return reader(rest)


def any_standing_in(side_word, row_word):
    """The standing that is written so, be it one of any game; else None."""
    side = number_in(side_word, 0, 1)
    return (side, row_word) if side is not None and is_text_of(row_word, SIGNS, 2, 7) else None


def change_in(words):
    """The change whose parts are these words, whatever they stand for; else None."""
    word = words[0]
    if word not in PARTS or len(words) != 1 + len(PARTS[word]):
        return None
    parts = [part_in(kind, part) for kind, part in zip(PARTS[word], words[1:])]
    return None if None in parts else (word, *parts)


def part_in(kind, word):
    """The text or number that is written so; else None."""
    if kind == "number":
        return number_in(word, -GREATEST_NUMBER, GREATEST_NUMBER)
    return word if is_text_of(word, SIGNS, 1, len(word)) else None
