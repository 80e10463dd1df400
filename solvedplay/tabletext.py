"""Tables of worths as texts, and back."""

from solvedplay.errors import BadRow
from solvedplay.words import NONE_WORD, far_in, far_word, standing_in, worth_in


def table_text(rows):
    """The text of rows as solved tells them."""
    if len(rows) == 0:
        return NONE_WORD
    return "\n".join([f"{side} {row} {worth} {far_word(far)}" for (side, row), worth, far in rows])


def table_in(game, text):
    """The rows that have this text; BadRow of the first row that isn't so written or can't stand there."""
    if text == NONE_WORD:
        return []
    found = []
    for number, row in enumerate(text.split("\n")):
        told = told_in(game, row)
        if told is None or (found and told[0] <= found[-1][0]):
            raise BadRow(number)
        found.append(told)
    return found


def told_in(game, row):
    """The tuple (standing, worth, far) in a row; None where it isn't so written."""
    words = row.split(" ")
    if len(words) != 4:
        return None
    standing, worth, far = standing_in(game, words[0], words[1]), worth_in(words[2]), far_in(words[3])
    if standing is None or worth is None:
        return None
    if far is None and (words[3] != NONE_WORD or worth != 0):
        return None
    return (standing, worth, far)
