"""Best play, and what each move is."""

from solvedplay.kinds import tupled
from solvedplay.moves import behind_move
from solvedplay.reach import MOST, ways_from
from solvedplay.solving import gain_of, worths_on


def judged(game, standing, *, most=MOST):
    """For each move a tuple (move, word, worth, far), of the standing behind it."""
    start = tupled(standing)
    ways = ways_from(game, [start], most)
    return judged_on(ways, worths_on(game, ways), start)


def best_moves(game, standing, *, most=MOST):
    """The list of the moves that are best."""
    return [row[0] for row in judged(game, standing, most=most) if row[1] == "best"]


def line(game, standing, *, most=MOST):
    """The pair (moves, word) of play by the first best move each time, to an "end" or "round"."""
    start = tupled(standing)
    ways = ways_from(game, [start], most)
    return line_on(ways, worths_on(game, ways), start)


def puzzles(game, standings, far, *, most=MOST):
    """The rising list of those reached, of that far, whose side gains by just one move that keeps the worth."""
    ways = ways_from(game, standings, most)
    told = worths_on(game, ways)
    return sorted([standing for standing in ways if told[standing][1] == far and is_puzzle(ways, told, standing)])


def is_puzzle(ways, told, standing):
    worth = told[standing][0]
    keeping = [move for move, behind in ways[standing] if told[behind][0] == worth]
    return gain_of(standing[0], worth) > 0 and len(keeping) == 1


def judged_on(ways, told, standing):
    """As judged, by the ways that there are, and by what worths_on tells of these."""
    worth, far = told[standing]
    pairs = [(move, told[behind]) for move, behind in ways[standing]]
    latest = max([behind_far for move, (behind, behind_far) in pairs if behind == worth and worth != 0], default=None)
    return [(move, word_of(standing[0], told[standing], pair, latest), *pair) for move, pair in pairs]


def word_of(side, ahead, behind, latest):
    """What a move of the side is, of the pairs (worth, far) ahead of it and behind it; latest is the greatest far
    behind all its moves that keep a worth that isn't 0."""
    worth, far = ahead
    if behind[0] != worth:
        return "mistake"
    gain = gain_of(side, worth)
    if gain == 0:
        return "best"
    if gain > 0:
        return "best" if behind[1] == far - 1 else "slower"
    return "best" if behind[1] == latest else "sooner"


def line_on(ways, told, start):
    """As line, by the ways that there are, and by what worths_on tells of these."""
    made = []
    here = start
    met = {start: True}
    while ways[here] != []:
        move = first_best(ways, told, here)
        made.append(move)
        here = behind_move(here, move)
        if here in met:
            return (made, "round")
        met[here] = True
    return (made, "end")


def first_best(ways, told, standing):
    """The first best move of a standing that isn't ended."""
    return [row[0] for row in judged_on(ways, told, standing) if row[1] == "best"][0]
