"""Plans: for each standing of a side's turn the one move that it makes there."""

from solvedplay.errors import NoMove
from solvedplay.kinds import tupled
from solvedplay.moves import behind_move, is_move
from solvedplay.playing import first_best, line_on
from solvedplay.reach import MOST, walked, ways_from, ways_on
from solvedplay.solving import worths_on


def best_plan(game, standing, side, *, most=MOST):
    """The plan of the side by its first best moves, of just the standings to which play then comes."""
    start = tupled(standing)
    ways = ways_from(game, [start], most)
    told = worths_on(game, ways)

    def ways_at(here):
        if here[0] != side or ways[here] == []:
            return ways[here]
        move = first_best(ways, told, here)
        return [(move, behind_move(here, move))]

    chosen = walked([start], most, ways_at)
    return [(here, chosen[here][0][0]) for here in sorted(chosen) if here[0] == side and chosen[here] != []]


def plan_worth(game, standing, side, plan, *, most=MOST):
    """The pair (worth, far) where the side has no other moves than the plan's; NoMove of the first standing at
    which the plan has none, then TooMany."""
    start = tupled(standing)
    return worths_on(game, planned_ways(game, start, side, plan, most))[start]


def counter(game, standing, side, plan, *, most=MOST):
    """The line where the side has no other moves than the plan's; refused as plan_worth."""
    start = tupled(standing)
    ways = planned_ways(game, start, side, plan, most)
    return line_on(ways, worths_on(game, ways), start)


def planned_ways(game, start, side, plan, most):
    """As ways_from, where the side has no other moves than the plan's."""
    planned = {here: move for here, move in tupled(plan)}

    def ways_at(here):
        pairs = ways_on(game, here)
        if here[0] != side or pairs == []:
            return pairs
        move = planned.get(here)
        if not is_move(game, here, move):
            raise NoMove(here)
        return [(move, behind_move(here, move))]

    return walked([start], most, ways_at)
