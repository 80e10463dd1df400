"""Turnings: standings, moves and games from behind, shifted, with sides and beads exchanged."""

from solvedplay.kinds import tupled


def turned(game, turning, standing):
    """The standing to which the turning leads this one."""
    side, row = standing
    shift = turning[1]
    text = turned_text(game, turning, row)
    return (turned_side(turning, side), text[shift:] + text[:shift])


def turned_move(game, turning, move):
    """The move at the place where its beads stand then."""
    place, old, new = move
    shape, beads, long = game[1:4]
    first = long - place - len(old) if turning[0] == 1 else place
    at = (first - turning[1]) % long if shape == "ring" else first
    return (at, turned_text(game, turning, old), turned_text(game, turning, new))


def turned_game(game, turning):
    """The game with all its rules and ends turned so."""
    name, shape, beads, long, rules, ends, stuck = game
    sides = [turned_side(turning, side) for side in (0, 1)]
    turned_rules = [tuple(sorted([(turned_text(game, turning, old), turned_text(game, turning, new))
                                  for old, new in rules[side]])) for side in sides]
    turned_ends = sorted([(who if who == 2 else turned_side(turning, who), turned_text(game, turning, pattern),
                           turned_worth(turning, worth)) for who, pattern, worth in ends])
    turned_stuck = [turned_worth(turning, stuck[side]) for side in sides]
    return (name, shape, beads, long, tuple(turned_rules), tuple(turned_ends), tuple(turned_stuck))


def turnings(game):
    """The rising list of the turnings by which the game becomes itself."""
    own = tupled(game)
    shifts = list(range(own[3])) if own[1] == "ring" else [0]
    found = []
    for back in (0, 1):
        for swap in (0, 1):
            for beads in orders(own[2]):
                # A shift changes no rule and no end, so that one tells of all.
                if turned_game(own, (back, 0, swap, beads)) == own:
                    found += [(back, shift, swap, beads) for shift in shifts]
    return sorted(found)


def alike(game, one, other):
    """The first of the turnings that leads a standing to another; None where there's none."""
    goal = tupled(other)
    for turning in turnings(game):
        if turned(game, turning, one) == goal:
            return turning
    return None


def least_alike(game, standing):
    """The pair of the least standing to which one of the turnings leads it, and the first that does."""
    return least_by(game, turnings(game), standing)


def least_by(game, found, standing):
    """As least_alike, by these turnings."""
    return min([(turned(game, turning, standing), turning) for turning in found])


def turned_text(game, turning, text):
    """The text from behind where back is 1, each bead what it becomes."""
    beads, become = game[2], turning[3]
    seen = text[::-1] if turning[0] == 1 else text
    return "".join([become[beads.index(bead)] for bead in seen])


def turned_side(turning, side):
    return 1 - side if turning[2] == 1 else side


def turned_worth(turning, worth):
    return -worth if turning[2] == 1 else worth


def orders(beads):
    """The list of all texts that have each of these beads once."""
    if beads == "":
        return [""]
    return [bead + rest for bead in beads for rest in orders(beads.replace(bead, ""))]
