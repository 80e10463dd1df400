"""Papers of worths: rows by which each side gets the worth, and the judge that reads them move by move."""

from solvedplay.games import is_standing, is_worth, rises
from solvedplay.kinds import is_count, is_list_of, is_tuple_of, tupled
from solvedplay.moves import behind_move, ended, is_move
from solvedplay.reach import MOST, walked, ways_from, ways_on
from solvedplay.solving import ends_on, gain_of, is_end_for, nearness, worths_on


def paper(game, standing, *, most=MOST):
    """The tuple (worth, least, most): rows for side 0 and the worth, rows for side 1 and the worth."""
    start = tupled(standing)
    ways = ways_from(game, [start], most)
    told = worths_on(game, ways)
    worth = told[start][0]
    least, greatest = [rows_from(ways, start, side, lefts_for(game, ways, told, side, worth)) for side in (0, 1)]
    return (worth, least, greatest)


def shows_worth(game, standing, thing):
    """Whether thing is a paper of the standing."""
    if not is_tuple_of(thing, 3) or not is_worth(thing[0]):
        return False
    worth, least, greatest = thing
    return all([shows_rows(game, side, worth, rows) and has_standing(rows, tupled(standing))
                for side, rows in ((0, least), (1, greatest))])


def shows_rows(game, side, worth, thing):
    """Whether thing is rows for that side and that worth that stand."""
    by_ends = is_by_ends(side, worth)

    def is_one(row):
        return is_row(game, by_ends, row)

    # Only of what is known to be rows can standings be compared.
    if not is_list_of(thing, is_one) or not rises([row[0] for row in thing]):
        return False
    lefts = {standing: left for standing, choice, left in thing}
    return all([row_stands(game, side, worth, row, lefts) for row in thing])


def is_by_ends(side, worth):
    """Whether rows for the side and the worth are by ends; else they are by holding."""
    return gain_of(side, worth) > 0


def is_row(game, by_ends, thing):
    if not is_tuple_of(thing, 3) or not is_standing(game, thing[0]):
        return False
    return is_count(thing[2]) if by_ends else thing[2] is None


def row_stands(game, side, worth, row, lefts):
    standing, choice, left = row
    end = ended(game, standing)
    if end is not None:
        return choice is None and is_end_for(end, side, worth)
    if standing[0] == side:
        return is_move(game, standing, choice) and leads_on(lefts, left, behind_move(standing, choice))
    return choice is None and all([leads_on(lefts, left, behind) for move, behind in ways_on(game, standing)])


def leads_on(lefts, left, behind):
    # Left falls, so that play comes to an end; by holding there's none, for play may go round.
    return behind in lefts and (left is None or lefts[behind] < left)


def has_standing(rows, standing):
    return standing in [row[0] for row in rows]


def lefts_for(game, ways, told, side, worth):
    """A dict of the standings of ways at which the side can get the worth or more for it, each with its left."""
    if is_by_ends(side, worth):
        return nearness(ends_on(game, ways), ways, side, worth)
    return {standing: None for standing in ways if gain_of(side, told[standing][0]) >= gain_of(side, worth)}


def rows_from(ways, start, side, lefts):
    """Rows for the side of the start and of what play then comes to."""
    def ways_at(standing):
        pairs = [pair for pair in ways[standing] if leads_on(lefts, lefts[standing], pair[1])]
        return pairs[:1] if standing[0] == side else pairs

    chosen = walked([start], len(lefts), ways_at)
    return [(standing, choice_of(chosen[standing], standing[0] == side), lefts[standing])
            for standing in sorted(chosen)]


def choice_of(pairs, is_its_turn):
    """The move of the first pair, where it's the turn of the one who chooses."""
    return pairs[0][0] if is_its_turn and pairs != [] else None
