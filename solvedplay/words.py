"""Words of rows: numbers, standings, moves, and what stands for None."""

from solvedplay.games import GREATEST, is_standing
from solvedplay.kinds import is_text_of

FIGURES = "0123456789"
FARTHEST = 400
NONE_WORD = "-"


def number_in(word, least, most):
    """The number from least to most that is written just so; else None."""
    figures = word[1:] if word.startswith("-") else word
    # So short that it can be read, whatever text it is.
    longest = max(len(str(least)), len(str(most)))
    if not is_text_of(figures, FIGURES, 1, longest):
        return None
    number = int(word)
    return number if word == str(number) and least <= number <= most else None


def worth_in(word):
    return number_in(word, -GREATEST, GREATEST)


def far_in(word):
    """The far, or left, that is written just so; else None."""
    return number_in(word, 0, FARTHEST)


def far_word(far):
    return NONE_WORD if far is None else str(far)


def move_word(move):
    place, old, new = move
    return f"{place}:{old}>{new}"


def standing_in(game, side_word, row_word):
    """The standing of the game that is written so; else None."""
    standing = (number_in(side_word, 0, 1), row_word)
    return standing if is_standing(game, standing) else None
