"""What a variant of a game leaves as it was, and worths led over to it."""

from solvedplay.moves import ended, moves
from solvedplay.reach import MOST, walked, ways_from
from solvedplay.solving import aheads, behinds_on, solved


def touched(game, other, standings, *, most=MOST):
    """The rising list of those reached by game of which the games tell another ended, or other moves."""
    return sorted(touched_on(game, other, ways_from(game, standings, most)))


def kept(game, other, standings, *, most=MOST):
    """The rising list of those reached by game from which play by game comes to none that's touched."""
    ways = ways_from(game, standings, most)
    ahead = aheads(behinds_on(ways))

    def ways_at(standing):
        return [(None, one) for one in ahead[standing]]

    # Gone back from those that are touched, one comes to just those that aren't kept.
    lost = walked(touched_on(game, other, ways), len(ways), ways_at)
    return sorted([standing for standing in ways if standing not in lost])


def led_over(game, other, rows, *, most=MOST):
    """The pair of what solved tells by other of the standings in rows, and how many of these aren't kept."""
    standings = [row[0] for row in rows]
    staying = {standing: True for standing in kept(game, other, standings, most=most)}
    told = solved(other, standings, most=most)
    return (told, len([row for row in told if row[0] not in staying]))


def touched_on(game, other, ways):
    """As touched, in the order of ways, which are those by game."""
    return [standing for standing in ways if is_touched(game, other, standing, [pair[0] for pair in ways[standing]])]


def is_touched(game, other, standing, made):
    """Whether the games tell another ended of the standing, or other moves; made are those by game."""
    return ended(game, standing) != ended(other, standing) or made != moves(other, standing)
