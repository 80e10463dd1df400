"""Games solved by their turnings: of all standings that are alike just the least one."""

from solvedplay.kinds import tupled
from solvedplay.reach import MOST, walked, ways_on
from solvedplay.solving import ends_on, worths_by
from solvedplay.turnings import least_alike, least_by, turned_worth, turnings


def solved_alike(game, standings, *, most=MOST):
    """The rising list of tuples (standing, worth, far) of the least ones of all that are reached; TooMany where there
    are more than most of these."""
    found = turnings(game)

    def least(standing):
        return least_by(game, found, standing)[0]

    def ways_at(standing):
        return [(move, least(behind)) for move, behind in ways_on(game, standing)]

    ways = walked([least(standing) for standing in standings], most, ways_at)
    told = worths_by(ends_of_both(game, ways), ways_of_both(ways))
    return sorted([(standing, *told[(standing[0], standing)]) for standing in ways])


def read_alike(game, rows, standing):
    """The pair (worth, far) of a standing by what solved_alike tells; None where its least one isn't in it."""
    least, turning = least_alike(game, standing)
    told = {one: (worth, far) for one, worth, far in tupled(rows)}
    if least not in told:
        return None
    worth, far = told[least]
    return (turned_worth(turning, worth), far)


# A turning may exchange the sides on the way to a least one. So each least one is reckoned for both: as a pair of the
# side whose turn it is taken to be, and the standing.


def ends_of_both(game, ways):
    ends = ends_on(game, ways)
    return {(side, standing): end_for(ends[standing], side == standing[0]) for standing in ways for side in (0, 1)}


def end_for(end, is_its_turn):
    """What ended tells, taken the other way where it's taken to be the other side's turn."""
    return end if end is None or is_its_turn else -end


def ways_of_both(ways):
    return {(side, standing): [(move, (1 - side, behind)) for move, behind in ways[standing]]
            for standing in ways for side in (0, 1)}
