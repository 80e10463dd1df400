"""Slow and plain ways to tell what the program tells, and games to ask of. Nothing here reads the program.

Games and standings are handed in as tuples here, so that what was told can be kept."""

import random
from functools import lru_cache


def listed(thing):
    """The same with lists for tuples, all the way down."""
    return [listed(part) for part in thing] if isinstance(thing, (list, tuple)) else thing


def game_of(beads=".x", long=3, rules=((), ()), ends=(), stuck=(0, 0), shape="line", name="toy"):
    return (name, shape, beads, long, rules, ends, stuck)


def all_rows(game):
    rows = [""]
    for at in range(game[3]):
        rows = [row + bead for row in rows for bead in game[2]]
    return rows


def all_standings(game):
    return [(side, row) for side in (0, 1) for row in all_rows(game)]


def places(game, row, text):
    found = []
    for place in range(len(row)):
        beads = row[place:] + (row * (len(text) + 1) if game[1] == "ring" else "")
        if beads.startswith(text):
            found.append(place)
    return found


def rule_moves(game, standing):
    side, row = standing
    return sorted((place, old, new) for old, new in game[4][side] for place in places(game, row, old))


@lru_cache(maxsize=None)
def end_of(game, standing):
    side, row = standing
    hit = [end for end in game[5] if end[0] != 1 - side and len(places(game, row, end[1])) > 0]
    if hit:
        total = sum(end[2] for end in hit)
        return 9 if total > 9 else -9 if total < -9 else total
    return None if rule_moves(game, standing) else game[6][side]


def moves_of(game, standing):
    return rule_moves(game, standing) if end_of(game, standing) is None else []


def after(game, standing, move):
    side, row = standing
    place, old, new = move
    beads = {at: row[at] for at in range(len(row))}
    for at in range(len(new)):
        beads[(place + at) % len(row)] = new[at]
    return (1 - side, "".join(beads[at] for at in range(len(row))))


@lru_cache(maxsize=None)
def behind(game, standing):
    return [after(game, standing, move) for move in moves_of(game, standing)]


def reach_of(game, standings):
    told, layer = [], list(standings)
    while layer:
        fresh = []
        for standing in layer:
            if standing not in told and standing not in fresh:
                fresh.append(standing)
        told += fresh
        layer = [other for standing in fresh for other in behind(game, standing)]
    return told


def graph_of(game, standings):
    """The dicts of what end_of tells, and of the standings behind; the standings are all that are reached."""
    return {one: end_of(game, one) for one in standings}, {one: behind(game, one) for one in standings}


def forced(ends, behinds, side, worth):
    """Of each number of moves, from 0, the set of standings from which the side can bring play to an end of that
    worth, or better for it, within so many, until the set stays."""
    good = {one for one in ends if ends[one] is not None and (ends[one] >= worth if side == 0 else ends[one] <= worth)}
    sets = [good]
    while True:
        more = set(good)
        for one in ends:
            if ends[one] is None:
                hits = [other in sets[-1] for other in behinds[one]]
                if any(hits) if one[0] == side else all(hits):
                    more.add(one)
        if more == sets[-1]:
            return sets
        sets.append(more)


def all_forced(game, standings):
    return forced_on(*graph_of(game, standings))


def forced_on(ends, behinds):
    return {(side, worth): forced(ends, behinds, side, worth) for side in (0, 1) for worth in range(-9, 10)}


def far_in(sets, standing):
    for number, members in enumerate(sets):
        if standing in members:
            return number
    return None


def solve(game, standings):
    """A dict of (worth, far) of all that are reached from the standings."""
    return solve_on(*graph_of(game, reach_of(game, standings)))


def solve_on(ends, behinds):
    sets = forced_on(ends, behinds)
    told = {}
    for standing in ends:
        told[standing] = (0, None)
        if ends[standing] is not None:
            told[standing] = (ends[standing], 0)
            continue
        for side, worths in ((0, range(9, 0, -1)), (1, range(-9, 0))):
            fars = [(worth, far_in(sets[(side, worth)], standing)) for worth in worths]
            fars = [pair for pair in fars if pair[1] is not None]
            if fars:
                told[standing] = fars[0]
    return told


def look(sets, standing, deep):
    """(low, high) of a standing, by what all_forced tells."""
    def can(side, worth):
        far = far_in(sets[(side, worth)], standing)
        return far is not None and far <= deep
    lows = [worth for worth in range(-9, 10) if can(0, worth)]
    highs = [worth for worth in range(-9, 10) if can(1, worth)]
    return (max(lows, default=-9), min(highs, default=9))


def plain_look(game, standing, deep):
    """(low, high), by trying all play."""
    end = end_of(game, standing)
    if end is not None:
        return (end, end)
    if deep == 0:
        return (-9, 9)
    looked = [plain_look(game, other, deep - 1) for other in behind(game, standing)]
    best = max if standing[0] == 0 else min
    return (best(low for low, high in looked), best(high for low, high in looked))


def open_all(game, opened, standing, left):
    """Adds to the set opened what looking at a standing with so many left opens."""
    if left < 1 or end_of(game, standing) is not None or (standing, left) in opened:
        return
    opened.add((standing, left))
    for other in behind(game, standing):
        open_all(game, opened, other, left - 1)


def even_graph(game, standing):
    told = solve(game, [standing])
    return {one: [other for other in behind(game, one) if told[other][0] == 0] for one in told if told[one][0] == 0}


def even_reach(evens, standing):
    """What even ways of one move or more come to."""
    told, layer = set(), list(evens[standing])
    while layer:
        one = layer.pop()
        if one not in told:
            told.add(one)
            layer += evens[one]
    return told


def word_of(game, standing):
    evens = even_graph(game, standing)
    if standing not in evens or end_of(game, standing) is not None:
        return ""
    on = even_reach(evens, standing)
    if not any(end_of(game, one) is not None for one in on):
        return "must"
    if any(one in even_reach(evens, one) for one in on | {standing}):
        return "may"
    return "never"


def back_of(game, standing):
    evens = even_graph(game, standing)
    if standing not in evens or end_of(game, standing) is not None:
        return None
    layer = {standing}
    for number in range(1, len(evens) + 1):
        layer = {other for one in layer for other in evens[one]}
        if standing in layer:
            return number
    return None


def random_text(dice, beads, least, most):
    return "".join(dice.choice(beads) for at in range(dice.randint(least, most)))


def random_rules(dice, beads, long, most):
    rules = set()
    for number in range(dice.randint(0, most)):
        old = random_text(dice, beads, 1, min(3, long))
        new = random_text(dice, beads, len(old), len(old))
        if old != new:
            rules.add((old, new))
    return tuple(sorted(rules))


def random_ends(dice, beads, long, most):
    ends = {}
    for number in range(dice.randint(0, most)):
        worth = dice.choice([-9, -7, -5, -3, -2, -1, 1, 2, 3, 5, 7, 9])
        ends[(dice.randint(0, 2), random_text(dice, beads, min(2, long), long))] = worth
    return tuple(sorted((who, pattern, ends[(who, pattern)]) for who, pattern in ends))


def random_game(dice, longest=4, most_beads=3):
    beads = "".join(dice.sample(".abcxz", dice.randint(2, most_beads)))
    long = dice.randint(2, longest)
    rules = (random_rules(dice, beads, long, 4), random_rules(dice, beads, long, 4))
    stuck = (dice.choice([0, 0, -9, -2, 4, 9]), dice.choice([0, 0, 9, 3, -4, -9]))
    return game_of(beads, long, rules, random_ends(dice, beads, long, 4), stuck, dice.choice(["line", "ring"]))


def random_games(seed, many, longest=4, most_beads=3):
    """The same games at each run."""
    dice = random.Random(seed)
    return [random_game(dice, longest, most_beads) for number in range(many)]


def some_standings(seed, game, many):
    return random.Random(seed).sample(all_standings(game), many)


def ways_of(game, standings):
    """A dict of the pairs of a move and what is behind it, of each of these."""
    return {one: [(move, after(game, one, move)) for move in moves_of(game, one)] for one in standings}


def judged_by(ways, told, standing):
    """What judged must tell, clause by clause, by the ways that there are and their worths."""
    side = standing[0]
    worth, far = told[standing]
    rows = []
    for move, other in ways[standing]:
        now, left = told[other]
        if now != worth:
            word = "mistake"
        elif worth == 0:
            word = "best"
        elif worth > 0 and side == 0 or worth < 0 and side == 1:
            word = "best" if left == far - 1 else "slower"
        else:
            lefts = [told[one][1] for made, one in ways[standing] if made != move and told[one][0] == worth]
            word = "sooner" if any(later > left for later in lefts) else "best"
        rows.append((move, word, now, left))
    return rows


def first_best_by(ways, told, standing):
    return next(row[0] for row in judged_by(ways, told, standing) if row[1] == "best")


def line_by(ways, told, standing):
    made, met = [], [standing]
    while ways[met[-1]]:
        made.append(first_best_by(ways, told, met[-1]))
        here = dict(ways[met[-1]])[made[-1]]
        if here in met:
            return (made, "round")
        met.append(here)
    return (made, "end")


def planned_order(game, standing, side, plan):
    """All to which play comes in order, and those of them at which the plan has no move."""
    moves = dict(plan)
    told, lacking, layer = [], [], [standing]
    while layer:
        fresh = []
        for one in layer:
            if one not in told and one not in fresh:
                fresh.append(one)
        told += fresh
        layer = []
        for one in fresh:
            if one[0] != side or end_of(game, one) is not None:
                layer += behind(game, one)
            elif repr(moves.get(one)) in [repr(move) for move in moves_of(game, one)]:
                layer.append(after(game, one, moves[one]))
            else:
                lacking.append(one)
    return told, lacking


def planned_ways(game, standing, side, plan):
    """The ways where the side has no other moves than the plan's, and the worths of all that are reached by them."""
    found = planned_order(game, standing, side, plan)[0]
    ways = ways_of(game, found)
    moves = dict(plan)
    for one in found:
        if one[0] == side:
            ways[one] = [(move, other) for move, other in ways[one] if move == moves[one]]
    behinds = {one: [other for move, other in ways[one]] for one in ways}
    return ways, solve_on({one: end_of(game, one) for one in found}, behinds)
