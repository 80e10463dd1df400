"""Judges of papers, written clause by clause: each tells the set of the clauses that are broken, none where it stands.

Nothing here reads the program. Beside them are papers of all standings, made in the plainest way."""

from tests.oracle import after, all_forced, all_standings, behind, end_of, far_in, moves_of, reach_of, solve


def is_number(thing):
    return type(thing) is int


def is_one_of(thing, things):
    """Kind by kind: a truth is no number, a list no tuple."""
    return repr(thing) in [repr(other) for other in things]


def kinds_broken(game, thing):
    """Of a list of tuples of three that begin with a standing."""
    if type(thing) is not list:
        return {"list"}
    broken = set()
    for row in thing:
        if type(row) is not tuple or len(row) != 3:
            broken.add("tuple")
        elif not is_one_of(row[0], all_standings(game)):
            broken.add("standing")
    return broken


def rise(things):
    return all(one < other for one, other in zip(things, things[1:]))


def broken_rows(game, side, worth, thing):
    broken = kinds_broken(game, thing)
    if broken:
        return broken
    by_ends = worth > 0 if side == 0 else worth < 0
    rows = {}
    for standing, choice, left in thing:
        rows.setdefault(standing, []).append(left)
        if by_ends and not (is_number(left) and left >= 0):
            broken.add("left by ends")
        if not by_ends and left is not None:
            broken.add("left by holding")
    if not rise([row[0] for row in thing]):
        broken.add("rising")

    def go_on(left, other):
        if other not in rows:
            broken.add("behind")
        elif by_ends and is_number(left):
            if any(is_number(less) and less >= left for less in rows[other]):
                broken.add("falling")

    for standing, choice, left in thing:
        end = end_of(game, standing)
        if end is not None:
            if choice is not None:
                broken.add("choice of an ended one")
            if end < worth if side == 0 else end > worth:
                broken.add("worth of an ended one")
        elif standing[0] == side:
            if not is_one_of(choice, moves_of(game, standing)):
                broken.add("choice")
            else:
                go_on(left, after(game, standing, choice))
        else:
            if choice is not None:
                broken.add("choice of the other side")
            for other in behind(game, standing):
                go_on(left, other)
    return broken


def broken_paper(game, standing, thing):
    if type(thing) is not tuple or len(thing) != 3:
        return {"paper"}
    if not is_number(thing[0]):
        return {"worth"}
    broken = set()
    for side, name in ((0, "least"), (1, "most")):
        clauses = broken_rows(game, side, thing[0], thing[side + 1])
        broken |= {f"{name}: {clause}" for clause in clauses}
        if not clauses & {"list", "tuple"} and standing not in [row[0] for row in thing[side + 1]]:
            broken.add(f"{name}: has it")
    return broken


def broken_slow(game, side, worth, thing):
    broken = kinds_broken(game, thing)
    if broken:
        return broken
    if any(not is_number(row[1]) or row[1] < 0 for row in thing):
        return {"left"}
    pairs = [row[:2] for row in thing]
    if not rise(pairs):
        broken.add("rising")
    for standing, left, choice in thing:
        end = end_of(game, standing)
        if end is not None:
            if choice is not None:
                broken.add("choice of an ended one")
            if end >= worth if side == 0 else end <= worth:
                broken.add("worth of an ended one")
        elif left == 0:
            if choice is not None:
                broken.add("choice with none left")
        elif standing[0] == side:
            if choice is not None:
                broken.add("choice of the gaining side")
            if any((other, left - 1) not in pairs for other in behind(game, standing)):
                broken.add("behind")
        elif not is_one_of(choice, moves_of(game, standing)):
            broken.add("choice")
        elif (after(game, standing, choice), left - 1) not in pairs:
            broken.add("behind")
    return broken


def broken_far(game, standing, thing):
    if end_of(game, standing) is not None:
        return {"ended"}
    if type(thing) is not tuple or len(thing) != 4:
        return {"paper"}
    worth, far, quick, slow = thing
    if not is_number(worth) or worth == 0:
        return {"worth"}
    if not is_number(far):
        return {"far"}
    side = 0 if worth > 0 else 1
    quicks, slows = broken_rows(game, side, worth, quick), broken_slow(game, side, worth, slow)
    broken = {f"quick: {clause}" for clause in quicks} | {f"slow: {clause}" for clause in slows}
    if not quicks & {"list", "tuple"} and (standing, far) not in [(row[0], row[2]) for row in quick]:
        broken.add("quick: has it")
    if not slows & {"list", "tuple"} and (standing, far - 1) not in [row[:2] for row in slow]:
        broken.add("slow: has it")
    return broken


def broken_table(game, standings, thing):
    broken = kinds_broken(game, thing)
    if broken:
        return broken
    for standing, worth, left in thing:
        if not (is_number(worth) and -9 <= worth <= 9):
            return {"worth"}
        if left is None and worth != 0 or left is not None and not (is_number(left) and left >= 0):
            return {"left"}
    if not rise([row[0] for row in thing]):
        broken.add("rising")
    table = {row[0]: row[1:] for row in thing}
    if any(standing not in table for standing in standings):
        broken.add("standings")
    for standing, worth, left in thing:
        end = end_of(game, standing)
        if end is not None:
            if worth != end:
                broken.add("worth of an ended one")
            continue
        others = behind(game, standing)
        if any(other not in table for other in others):
            broken.add("behind")
        found = [table[other] for other in others if other in table]
        if any(other > worth if standing[0] == 0 else other < worth for other, less in found):
            broken.add("none better")
        same = [less for other, less in found if other == worth]
        if not same:
            broken.add("one of the same")
        elif worth > 0 and standing[0] == 0 or worth < 0 and standing[0] == 1:
            if not any(less < left for less in same):
                broken.add("falling for the gain")
        elif worth != 0:
            if not all(less < left for less in same):
                broken.add("falling for the loss")
    return broken


def full_rows(game, standings, side, worth):
    """Rows for the side and the worth of all from which it can have that; the standings are all that are reached."""
    by_ends = worth > 0 if side == 0 else worth < 0
    if by_ends:
        sets = all_forced(game, standings)[(side, worth)]
        lefts = {one: far_in(sets, one) for one in sets[-1]}
    else:
        told = solve(game, standings)
        lefts = {one: None for one in told if (told[one][0] >= worth if side == 0 else told[one][0] <= worth)}
    rows = []
    for one in sorted(lefts):
        choices = [move for move in moves_of(game, one) if after(game, one, move) in lefts
                   and (not by_ends or lefts[after(game, one, move)] < lefts[one])]
        rows.append((one, choices[-1] if choices and one[0] == side else None, lefts[one]))
    return rows


def full_slow(game, standings, side, worth, far):
    """All tuples of slow with a left below far."""
    sets = all_forced(game, standings)[(side, worth)]

    def is_late(one, left):
        return far_in(sets, one) is None or far_in(sets, one) > left

    rows = []
    for one in sorted(standings):
        for left in range(far):
            if is_late(one, left):
                choices = [move for move in moves_of(game, one) if is_late(after(game, one, move), left - 1)]
                rows.append((one, left, choices[-1] if choices and left > 0 and one[0] != side else None))
    return rows


def full_far(game, standing, worth):
    """The tuple of that worth, with its own least number of moves; None where the side can't have it."""
    found = reach_of(game, [standing])
    side = 0 if worth > 0 else 1
    far = far_in(all_forced(game, found)[(side, worth)], standing)
    if far is None or far == 0:
        return None
    return (worth, far, full_rows(game, found, side, worth), full_slow(game, found, side, worth, far))
