"""What play comes to."""

from solvedplay.errors import TooMany
from solvedplay.games import rules_of
from solvedplay.kinds import tupled
from solvedplay.moves import behind_move, moves, places_of

MOST = 400


def reached(game, standings, *, most=MOST):
    """The list of all standings that play from these may come to; TooMany where there are more than most."""
    return list(ways_from(game, standings, most))


def unused(game, standings, *, most=MOST):
    """The pair of the lists of rules and of ends that aren't used in those reached."""
    ways = ways_from(game, standings, most)
    used = {(standing[0], old, new): True for standing in ways for (place, old, new), behind in ways[standing]}
    ends = tupled(game[5])
    return ([rule for rule in rules_of(game) if rule not in used], [end for end in ends if not is_met(game, ways, end)])


def ways_back(game, standings, goal, *, most=MOST):
    """The rising list of pairs (standing, move) of those reached whose move leads to the goal."""
    ways = ways_from(game, standings, most)
    wanted = tupled(goal)
    return sorted([(standing, move) for standing in ways for move, behind in ways[standing] if behind == wanted])


def ways_from(game, standings, most):
    """A dict of all standings reached, in order: of each its pairs of a move and the standing behind it."""
    def ways_at(standing):
        return ways_on(game, standing)
    return walked(tupled(standings), most, ways_at)


def walked(begins, most, ways_at):
    """A dict of all to which ways lead from the begins, in order: of each what ways_at tells, pairs of a move and
    what is behind it; TooMany where there are more than most."""
    met = {begin: True for begin in begins}
    order = list(met)
    ways = {}
    at = 0
    # Each of the first most is asked of, for ways_at may refuse it, and that goes ahead of TooMany.
    while at < len(order) and at < most:
        pairs = ways_at(order[at])
        ways[order[at]] = pairs
        for move, behind in pairs:
            if behind not in met:
                met[behind] = True
                order.append(behind)
        at += 1
    if len(order) > most:
        raise TooMany(most)
    return ways


def ways_on(game, standing):
    return [(move, behind_move(standing, move)) for move in moves(game, standing)]


def is_met(game, standings, end):
    who, pattern, worth = end
    return any([who in (side, 2) and places_of(game, row, pattern) != [] for side, row in standings])
