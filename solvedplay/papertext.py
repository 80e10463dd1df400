"""Papers of worths as texts, and back."""

from solvedplay.errors import BadRow
from solvedplay.games import LONGEST_OLD
from solvedplay.kinds import is_text_of
from solvedplay.words import NONE_WORD, far_in, far_word, move_word, number_in, standing_in, worth_in


def paper_text(thing):
    """The text of a paper (worth, least, most)."""
    worth, least, most = thing
    rows = [f"paper {worth}"] + [row_text("least", row) for row in least] + [row_text("most", row) for row in most]
    return "\n".join(rows)


def row_text(word, row):
    (side, beads), choice, left = row
    return f"{word} {side} {beads} {choice_word(choice)} {far_word(left)}"


def choice_word(choice):
    return NONE_WORD if choice is None else move_word(choice)


def paper_in(game, text):
    """The paper that has this text; BadRow of the first row that isn't so written or can't stand there."""
    rows = text.split("\n")
    worth = head_in(rows[0])
    if worth is None:
        raise BadRow(0)
    least = rows_in(game, "least", rows[1:])
    most = rows_in(game, "most", rows[1 + len(least):])
    # Both were read as far as they go, so here the text is at its end, or the first row that is wrong.
    at = 1 + len(least) + len(most)
    if at < len(rows):
        raise BadRow(at)
    return (worth, least, most)


def head_in(row):
    words = row.split(" ")
    return worth_in(words[1]) if len(words) == 2 and words[0] == "paper" else None


def rows_in(game, word, rows):
    """The rows of a paper with which these rows begin, as many as can stand there."""
    found = []
    for row in rows:
        told = row_in(game, word, row)
        if told is None or (found and told[0] <= found[-1][0]):
            break
        found.append(told)
    return found


def row_in(game, word, row):
    """The tuple (standing, choice, left) in a row; None where it isn't so written."""
    words = row.split(" ")
    if len(words) != 5 or words[0] != word:
        return None
    standing, choice, left = standing_in(game, words[1], words[2]), choice_in(game, words[3]), far_in(words[4])
    if standing is None or (choice is None and words[3] != NONE_WORD) or (left is None and words[4] != NONE_WORD):
        return None
    return (standing, choice, left)


def choice_in(game, word):
    """The choice (place, old, new) that is written so; else None."""
    place_word, colon, change = word.partition(":")
    old, arrow, new = change.partition(">")
    place = number_in(place_word, 0, game[3] - 1)
    if place is None or len(old) != len(new):
        return None
    return (place, old, new) if all([is_text_of(beads, game[2], 1, LONGEST_OLD) for beads in (old, new)]) else None
