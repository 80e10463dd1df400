"""Where texts stand, where play ends, and what moves do."""

from solvedplay.errors import NoMove
from solvedplay.games import GREATEST
from solvedplay.kinds import is_number, tupled


def places_of(game, row, text):
    """The rising list of the places of the row at which the text stands."""
    return [place for place in range(len(row)) if stands(game[1], row, text, place)]


def stands(shape, row, text, place):
    if shape == "line":
        return row[place:place + len(text)] == text
    return all([row[(place + at) % len(row)] == text[at] for at in range(len(text))])


def ended(game, standing):
    """The worth of an ended standing; None where play goes on."""
    side, row = standing
    worths = [worth for who, pattern, worth in game[5] if who in (side, 2) and places_of(game, row, pattern)]
    # The ends may sum to 0, so it's their number that tells whether play has ended.
    if len(worths) > 0:
        return max(-GREATEST, min(GREATEST, sum(worths)))
    return game[6][side] if moves_by_rules(game, standing) == [] else None


def moves_by_rules(game, standing):
    side, row = standing
    return sorted([(place, old, new) for old, new in game[4][side] for place in places_of(game, row, old)])


def moves(game, standing):
    """The rising list of the moves (place, old, new); none of an ended standing."""
    return moves_by_rules(game, standing) if ended(game, standing) is None else []


def done(game, standing, move):
    """The standing behind a move; NoMove of what is none of the moves."""
    made = tupled(move)
    if not is_move(game, standing, made):
        raise NoMove(made)
    return behind_move(standing, made)


def is_move(game, standing, thing):
    """Whether thing is one of the moves, kind by kind."""
    # A truth equals a number, but is no place.
    return thing in moves(game, standing) and is_number(thing[0])


def behind_move(standing, move):
    side, row = standing
    place, old, new = move
    beads = list(row)
    for at, bead in enumerate(new):
        beads[(place + at) % len(row)] = bead
    return (1 - side, "".join(beads))
