"""Records as texts, and back."""

from solvedplay.errors import BadRow
from solvedplay.moves import behind_move, is_move
from solvedplay.words import number_in, standing_in


def record_text(record):
    """The text of a record."""
    (side, row), made = record
    return "\n".join([f"from {side} {row}"] + [f"{place} {old} {new}" for place, old, new in made])


def record_in(game, text):
    """The record that has this text; BadRow of the first row that isn't so written, or whose move can't be made."""
    rows = text.split("\n")
    begin = begin_in(game, rows[0])
    if begin is None:
        raise BadRow(0)
    here = begin
    made = []
    for number in range(1, len(rows)):
        move = move_in(game, here, rows[number])
        if move is None:
            raise BadRow(number)
        made.append(move)
        here = behind_move(here, move)
    return (begin, made)


def begin_in(game, row):
    words = row.split(" ")
    return standing_in(game, words[1], words[2]) if len(words) == 3 and words[0] == "from" else None


def move_in(game, standing, row):
    """The move in a row, where it can be made; else None."""
    words = row.split(" ")
    if len(words) != 3:
        return None
    move = (number_in(words[0], 0, game[3] - 1), words[1], words[2])
    return move if is_move(game, standing, move) else None
