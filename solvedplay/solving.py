"""Worths, reckoned back from the ends."""

from solvedplay.kinds import tupled
from solvedplay.moves import ended
from solvedplay.reach import MOST, ways_from

# Pairs of a side and what it may gain, the greater ones last.
GAINS = ((0, 1), (1, -1), (0, 2), (1, -2), (0, 3), (1, -3), (0, 4), (1, -4), (0, 5), (1, -5), (0, 6), (1, -6),
         (0, 7), (1, -7), (0, 8), (1, -8), (0, 9), (1, -9))


def solved(game, standings, *, most=MOST):
    """The rising list of tuples (standing, worth, far) of all that are reached; TooMany as reached."""
    told = worths_on(game, ways_from(game, standings, most))
    return sorted([(standing, worth, far) for standing, (worth, far) in told.items()])


def worth_of(game, standing, *, most=MOST):
    """The pair (worth, far) of a standing; TooMany as reached."""
    start = tupled(standing)
    return worths_on(game, ways_from(game, [start], most))[start]


def gain_of(side, worth):
    """What a worth is to a side: above 0 where it gains."""
    return worth if side == 0 else -worth


def worths_on(game, ways):
    """A dict of the pairs (worth, far) of all standings of ways, as ways_from tells them."""
    return worths_by(ends_on(game, ways), ways)


def worths_by(ends, ways):
    """As worths_on; ends are what ended tells of each."""
    facts = facts_by(ends, ways, {})
    return {standing: facts[standing][:2] for standing in facts}


def ends_on(game, ways):
    """A dict of what ended tells of all standings of ways."""
    return {standing: ended(game, standing) for standing in ways}


def facts_by(ends, ways, known):
    """A dict of the tuples (worth, far, fars) of all standings of ways, fars being what nearness tells of it for each
    of GAINS. What is behind them, and isn't among ways, is known: that dict has the same of it."""
    behinds = behinds_on(ways)
    edge = {standing: known[standing][2] for standing in behinds if standing not in ways}
    nears = [brought(behinds, goals_with(ends, edge, at), GAINS[at][0]) for at in range(len(GAINS))]
    return {standing: fact_of(ends[standing], tuple([near.get(standing) for near in nears])) for standing in ways}


def fact_of(end, fars):
    """The tuple (worth, far, fars) of a standing."""
    if end is not None:
        return (end, 0, fars)
    # GAINS rise, and never has one standing some of both sides, so that the last one is the greatest.
    told = [(worth, far) for (side, worth), far in zip(GAINS, fars) if far is not None]
    return (*told[-1], fars) if told != [] else (0, None, fars)


def goals_with(ends, edge, at):
    """As goals_in, for that one of GAINS, with those of the edge from which it can be had; edge has the fars of
    each."""
    side, worth = GAINS[at]
    goals = goals_in(ends, side, worth)
    for standing in edge:
        if edge[standing][at] is not None:
            goals[standing] = edge[standing][at]
    return goals


def nearness(ends, ways, side, worth):
    """A dict of the standings of ways from which that side can bring play to an end of that worth, or a better
    one for it, each with the least number of moves within which it can; ends are what ended tells of each."""
    return brought(behinds_on(ways), goals_in(ends, side, worth), side)


def goals_in(ends, side, worth):
    """A dict of the standings that are ended with that worth, or a better one for the side, each with 0 moves."""
    return {standing: 0 for standing in ends if is_end_for(ends[standing], side, worth)}


def is_end_for(end, side, worth):
    """Whether what ended tells is that worth, or a better one for the side."""
    return end is not None and gain_of(side, end) >= gain_of(side, worth)


def behinds_on(ways):
    """A dict of the standings behind the moves of each standing of ways; of those that aren't among ways none."""
    behinds = {behind: [] for standing in ways for move, behind in ways[standing]}
    for standing in ways:
        behinds[standing] = [behind for move, behind in ways[standing]]
    return behinds


def brought(behinds, goals, side):
    """A dict of the standings from which that side can bring play to one of the goals, whatever the other one
    does, each with the least number of moves within which it can, counted on from what goals, a dict, has of each.
    Where side is None, none of them can choose: play comes to a goal by all its ways."""
    # Most gains can be had nowhere, for no end has them.
    if goals == {}:
        return {}
    ahead = aheads(behinds)
    # How many moves must be found to lead to goals until the standing itself does.
    wanting = {standing: 1 if standing[0] == side else len(behinds[standing]) for standing in behinds}
    near = {goal: goals[goal] for goal in goals}
    layers = {}
    for goal in goals:
        layers.setdefault(goals[goal], []).append(goal)
    many = 0
    while layers != {}:
        layer = layers.pop(many, [])
        many += 1
        for standing in [one for here in layer for one in ahead[here]]:
            wanting[standing] -= 1
            if wanting[standing] == 0:
                near[standing] = many
                layers.setdefault(many, []).append(standing)
    return near


def aheads(behinds):
    """A dict of what leads to each standing, once for each move."""
    ahead = {standing: [] for standing in behinds}
    for standing in behinds:
        for behind in behinds[standing]:
            ahead[behind].append(standing)
    return ahead
