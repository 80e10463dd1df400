"""The mistakes of a record, and what they gave away."""

from solvedplay.playing import line_on
from solvedplay.reach import MOST
from solvedplay.records import looked_over


def mistakes(game, record, *, most=MOST):
    """The list of tuples (number, ahead, behind, moves) of all mistakes, moves those of line from behind it."""
    standings, made, ways, told = looked_over(game, record, most)
    worths = [told[standing][0] for standing in standings]
    return [(number, worths[number], worths[number + 1], line_on(ways, told, standings[number + 1])[0])
            for number in range(len(made)) if worths[number] != worths[number + 1]]


def given_away(game, record, *, most=MOST):
    """The pair of what side 0, and side 1, gave away by all its moves."""
    standings, made, ways, told = looked_over(game, record, most)
    given = [0, 0]
    for number in range(len(made)):
        # No move betters the worth for the side that makes it, so what is lost is how far the worth went.
        given[standings[number][0]] += abs(told[standings[number]][0] - told[standings[number + 1]][0])
    return (given[0], given[1])
