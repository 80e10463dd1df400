"""Worths, reckoned back from the ends."""

from solvedplay.games import GREATEST
from solvedplay.kinds import tupled
from solvedplay.moves import ended
from solvedplay.reach import MOST, ways_from


def solved(game, standings, *, most=MOST):
    """The rising list of tuples (standing, worth, far) of all that are reached; TooMany as reached."""
    told = worths_on(game, ways_from(game, standings, most))
    return sorted([(standing, worth, far) for standing, (worth, far) in told.items()])


def worth_of(game, standing, *, most=MOST):
    """The pair (worth, far) of a standing; TooMany as reached."""
    start = tupled(standing)
    return worths_on(game, ways_from(game, [start], most))[start]


def gain_of(side, worth):
    """What a worth is to a side: above 0 where it gains."""
    return worth if side == 0 else -worth


def worths_on(game, ways):
    """A dict of the pairs (worth, far) of all standings of ways, as ways_from tells them."""
    return worths_by({standing: ended(game, standing) for standing in ways}, ways)


def worths_by(ends, ways):
    """As worths_on; ends are what ended tells of each."""
    told = {standing: (0, None if ends[standing] is None else 0) for standing in ways}
    # Rising, so that what is told last is the greatest gain of either side.
    for size in range(1, GREATEST + 1):
        for side, worth in ((0, size), (1, -size)):
            for standing, far in nearness(ends, ways, side, worth).items():
                told[standing] = (worth, far)
    return told


def nearness(ends, ways, side, worth):
    """A dict of the standings of ways from which that side can bring play to an end of that worth, or a better
    one for it, each with the least number of moves within which it can; ends are what ended tells of each."""
    goals = [standing for standing in ways if is_end_for(ends[standing], side, worth)]
    behinds = {standing: [behind for move, behind in ways[standing]] for standing in ways}
    return brought(behinds, goals, side)


def is_end_for(end, side, worth):
    """Whether what ended tells is that worth, or a better one for the side."""
    return end is not None and gain_of(side, end) >= gain_of(side, worth)


def brought(behinds, goals, side):
    """A dict of the standings from which that side can bring play to one of the goals, whatever the other one
    does, each with the least number of moves within which it can. Where side is None, none of them can choose:
    play comes to a goal by all its ways."""
    ahead = aheads(behinds)
    # How many moves must be found to lead to goals until the standing itself does.
    wanting = {standing: 1 if standing[0] == side else len(behinds[standing]) for standing in behinds}
    near = {goal: 0 for goal in goals}
    order = list(goals)
    at = 0
    while at < len(order):
        here = order[at]
        for standing in ahead[here]:
            wanting[standing] -= 1
            if wanting[standing] == 0:
                near[standing] = near[here] + 1
                order.append(standing)
        at += 1
    return near


def aheads(behinds):
    """A dict of what leads to each standing, once for each move."""
    ahead = {standing: [] for standing in behinds}
    for standing in behinds:
        for behind in behinds[standing]:
            ahead[behind].append(standing)
    return ahead
