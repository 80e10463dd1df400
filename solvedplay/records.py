"""Records of play: a standing and the moves that were made from there."""

from solvedplay.errors import NoMove
from solvedplay.kinds import tupled
from solvedplay.moves import behind_move, is_move
from solvedplay.playing import judged_on
from solvedplay.reach import MOST, ways_from
from solvedplay.solving import worths_on


def played(game, record):
    """The list of the standings that the record comes to; NoMove of the first pair (number, move) that is none."""
    start, made = tupled(record)
    standings = [start]
    for number, move in enumerate(made):
        here = standings[number]
        if not is_move(game, here, move):
            raise NoMove((number, move))
        standings.append(behind_move(here, move))
    return standings


def told_moves(game, record, *, most=MOST):
    """For each move what judged tells of it, (word, worth, far); refused as played, then with TooMany."""
    standings, made, ways, told = looked_over(game, record, most)
    return [told_of(judged_on(ways, told, here), move) for here, move in zip(standings, made)]


def looked_over(game, record, most):
    """The tuple of the record's standings, its moves, and the ways and worths of all that are reached from its first
    one; refused as told_moves."""
    start, made = tupled(record)
    standings = played(game, record)
    ways = ways_from(game, [start], most)
    return (standings, made, ways, worths_on(game, ways))


def told_of(rows, wanted):
    return [(word, worth, far) for move, word, worth, far in rows if move == wanted][0]
