"""The judge of a whole table of worths."""

from solvedplay.games import is_standing, is_worth, rises
from solvedplay.kinds import is_count, is_list_of, is_tuple_of, tupled
from solvedplay.moves import ended
from solvedplay.reach import ways_on
from solvedplay.solving import gain_of


def shows_solved(game, standings, thing):
    """Whether thing is a table (standing, worth, left) that has the standings, and the worths by their moves."""
    def is_one(row):
        return is_table_row(game, row)

    # Only of what is known to be rows can standings be compared.
    if not is_list_of(thing, is_one) or not rises([row[0] for row in thing]):
        return False
    table = {standing: (worth, left) for standing, worth, left in thing}
    return all([standing in table for standing in tupled(standings)]) and (
        all([worth_stands(game, table, standing) for standing in table]))


def is_table_row(game, thing):
    if not is_tuple_of(thing, 3):
        return False
    standing, worth, left = thing
    return is_standing(game, standing) and is_worth(worth) and (is_count(left) or (left is None and worth == 0))


def worth_stands(game, table, standing):
    worth, left = table[standing]
    end = ended(game, standing)
    if end is not None:
        return worth == end
    behinds = [behind for move, behind in ways_on(game, standing)]
    return all([behind in table for behind in behinds]) and (
        is_best_of(standing[0], worth, left, [table[behind] for behind in behinds]))


def is_best_of(side, worth, left, pairs):
    """Whether that worth and left come of the pairs (worth, left) behind the side's moves."""
    gain = gain_of(side, worth)
    if max([gain_of(side, behind) for behind, behind_left in pairs]) != gain:
        return False
    lefts = [behind_left for behind, behind_left in pairs if behind == worth]
    if gain > 0:
        return min(lefts) < left
    return gain == 0 or max(lefts) < left
