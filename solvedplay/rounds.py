"""Play that goes round: even ways, on which each standing is of worth 0."""

from solvedplay.kinds import tupled
from solvedplay.moves import ended
from solvedplay.reach import MOST, ways_from
from solvedplay.solving import brought, worths_on


def round_word(game, standing, *, most=MOST):
    """Whether play that keeps the worth 0 "must" go round, "never" does, or "may"; else the empty text."""
    start = tupled(standing)
    evens = evens_from(game, start, most)
    if not is_even(game, start, evens):
        return ""
    ends = [even for even in evens if ended(game, even) is not None]
    counts = counts_from(evens, start)
    if not any([end in counts for end in ends]):
        return "must"
    return "never" if start in brought(evens, {end: 0 for end in ends}, None) else "may"


def back_in(game, standing, *, most=MOST):
    """The least number of moves of an even way back to the standing itself; None where there's none."""
    start = tupled(standing)
    evens = evens_from(game, start, most)
    if not is_even(game, start, evens):
        return None
    return counts_from(evens, start).get(start)


def is_even(game, standing, evens):
    return standing in evens and ended(game, standing) is None


def evens_from(game, standing, most):
    """A dict of all standings of worth 0 that are reached: of each those of worth 0 behind its moves."""
    ways = ways_from(game, [standing], most)
    told = worths_on(game, ways)
    evens = [even for even in ways if told[even][0] == 0]
    return {even: [behind for move, behind in ways[even] if told[behind][0] == 0] for even in evens}


def counts_from(evens, start):
    """A dict of what even ways of one move or more come to, each with the least number of these moves."""
    counts = {}
    order = [start]
    at = 0
    while at < len(order):
        here = order[at]
        # The start has no count until a way comes back to it, by then it has been gone on from.
        count = counts.get(here, 0) + 1
        for behind in evens[here]:
            if behind not in counts:
                counts[behind] = count
                order.append(behind)
        at += 1
    return counts
