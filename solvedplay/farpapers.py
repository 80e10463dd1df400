"""Papers of distances: within how many moves a gain can be had, and within how many it can't."""

from solvedplay.games import is_standing, is_worth, rises
from solvedplay.kinds import is_count, is_list_of, is_number, is_tuple_of, tupled
from solvedplay.moves import behind_move, ended, is_move
from solvedplay.papers import choice_of, lefts_for, rows_from, shows_rows
from solvedplay.reach import MOST, walked, ways_from, ways_on
from solvedplay.solving import is_end_for, worths_on


def far_paper(game, standing, *, most=MOST):
    """The tuple (worth, far, quick, slow); None of an ended standing and of worth 0."""
    start = tupled(standing)
    ways = ways_from(game, [start], most)
    told = worths_on(game, ways)
    worth, far = told[start]
    if worth == 0 or far == 0:
        return None
    side = gaining(worth)
    lefts = lefts_for(game, ways, told, side, worth)
    return (worth, far, rows_from(ways, start, side, lefts), slow_from(ways, start, far, side, lefts))


def shows_far(game, standing, thing):
    """Whether thing is a tuple (worth, far, quick, slow) of the standing, of any worth but 0."""
    start = tupled(standing)
    if ended(game, start) is not None or not is_tuple_of(thing, 4):
        return False
    worth, far, quick, slow = thing
    if not is_worth(worth) or worth == 0 or not is_number(far):
        return False
    side = gaining(worth)
    return (shows_rows(game, side, worth, quick) and (start, far) in [(row[0], row[2]) for row in quick]
            and shows_slow(game, side, worth, slow) and (start, far - 1) in [row[:2] for row in slow])


def gaining(worth):
    return 0 if worth > 0 else 1


def shows_slow(game, side, worth, thing):
    """Whether thing is a list of tuples (standing, left, choice) by which the side can't have that worth so soon."""
    def is_one(row):
        return is_tuple_of(row, 3) and is_standing(game, row[0]) and is_count(row[1])

    # Only what is known to be such pairs can be compared.
    if not is_list_of(thing, is_one) or not rises([row[:2] for row in thing]):
        return False
    pairs = {row[:2]: True for row in thing}
    return all([slow_stands(game, side, worth, row, pairs) for row in thing])


def slow_stands(game, side, worth, row, pairs):
    standing, left, choice = row
    end = ended(game, standing)
    if end is not None:
        return choice is None and not is_end_for(end, side, worth)
    if left == 0:
        return choice is None
    if standing[0] == side:
        return choice is None and all([(behind, left - 1) in pairs for move, behind in ways_on(game, standing)])
    return is_move(game, standing, choice) and (behind_move(standing, choice), left - 1) in pairs


def slow_from(ways, start, far, side, lefts):
    """The list of tuples (standing, left, choice) by which the side needs far moves; lefts tells how many of each."""
    def ways_at(pair):
        standing, left = pair
        if left == 0:
            return []
        later = [(move, (behind, left - 1)) for move, behind in ways[standing] if lefts.get(behind, left) >= left]
        return later if standing[0] == side else later[:1]

    chosen = walked([(start, far - 1)], len(ways) * far, ways_at)
    return [(*pair, choice_of(chosen[pair], pair[0][0] != side)) for pair in sorted(chosen)]
