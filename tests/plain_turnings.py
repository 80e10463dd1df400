"""Slow and plain ways to tell turnings, and games that turnings lead to themselves. Nothing here reads the program."""

import itertools
import random

from tests.oracle import game_of, random_game, random_games


def all_turnings(game):
    """All that there may be, rising."""
    shifts = range(game[3]) if game[1] == "ring" else [0]
    beads = ["".join(order) for order in itertools.permutations(game[2])]
    return sorted(itertools.product((0, 1), shifts, (0, 1), beads))


def identity(game):
    return (0, 0, 0, game[2])


def plain_text(game, turning, text):
    become = {bead: turning[3][at] for at, bead in enumerate(game[2])}
    beads = [become[bead] for bead in text]
    if turning[0] == 1:
        beads.reverse()
    return "".join(beads)


def plain_turned(game, turning, standing):
    beads = list(plain_text(game, turning, standing[1]))
    for number in range(turning[1]):
        beads.append(beads.pop(0))
    return (standing[0] ^ turning[2], "".join(beads))


def plain_game(game, turning):
    name, shape, beads, long, rules, ends, stuck = game
    sides = (1, 0) if turning[2] else (0, 1)
    sign = -1 if turning[2] else 1
    rules = tuple(tuple(sorted(tuple(plain_text(game, turning, text) for text in rule) for rule in rules[side]))
                  for side in sides)
    ends = tuple(sorted((sides[who] if who < 2 else 2, plain_text(game, turning, pattern), sign * worth)
                        for who, pattern, worth in ends))
    return (name, shape, beads, long, rules, ends, tuple(sign * stuck[side] for side in sides))


def plain_turnings(game):
    return [turning for turning in all_turnings(game) if plain_game(game, turning) == game]


def led_to(game, standing):
    """A dict of all standings to which turnings of the game lead this one, each with the first that does."""
    found = {}
    for turning in plain_turnings(game):
        found.setdefault(plain_turned(game, turning, standing), turning)
    return found


def closed(game, chosen):
    """The game with all that these turnings make of its rules and ends; None where that's no game."""
    rules = {(side, old, new) for side in (0, 1) for old, new in game[4][side]}
    ends = {(who, pattern): worth for who, pattern, worth in game[5]}
    many = None
    while many != (len(rules), len(ends)):
        many = (len(rules), len(ends))
        for turning in chosen:
            now = game[:4] + (tuple(tuple((old, new) for at, old, new in rules if at == side) for side in (0, 1)),
                              tuple((*end, ends[end]) for end in ends), game[6])
            turned = plain_game(now, turning)
            rules |= {(side, old, new) for side in (0, 1) for old, new in turned[4][side]}
            for who, pattern, worth in turned[5]:
                if ends.setdefault((who, pattern), worth) != worth:
                    return None
    sides = tuple(tuple(sorted((old, new) for at, old, new in rules if at == side)) for side in (0, 1))
    stuck = (game[6][0], -game[6][0]) if any(turning[2] for turning in chosen) else game[6]
    if max(len(sides[0]), len(sides[1]), len(ends)) > 6:
        return None
    return game[:4] + (sides, tuple(sorted((*end, ends[end]) for end in ends)), stuck)


def alike_games(seed, many, longest=3, most_beads=3):
    """Games, the same at each run, that some turnings lead to themselves."""
    dice = random.Random(seed)
    found = []
    while len(found) < many:
        game = random_game(dice, longest, most_beads)
        game = closed(game, dice.sample(all_turnings(game), dice.choice([1, 1, 2])))
        if game is not None and any(game[4]):
            found.append(game)
    return found


# Nothing leads it to itself but what changes nothing.
LOPSIDED = game_of(".xy", 3, ((("x", "y"), ("x.", ".x")), (("y", "."),)), ((0, "xy", 3), (2, "..y", -1)), (1, 2))
# Alike from behind.
MIRRORED = game_of(".x", 4, (((".x", "x."), ("x.", ".x")), (("x", "."),)), ((0, ".xx.", 3), (2, "..", 2)), (1, 2))
# Alike with the beads a and b exchanged.
RECOLOURED = game_of("ab.", 3, ((("a", "."), ("b", ".")), ((".", "a"), (".", "b"))), ((1, "ab", 4), (1, "ba", 4)), (5, 0))
# Alike with the sides exchanged.
EXCHANGED = game_of(".x", 3, (((".", "x"),), ((".", "x"),)), ((0, "xx", 4), (1, "xx", -4)), (3, -3))
# Alike with the sides, the ends of the row and two beads exchanged, and by none of these alone.
ALL_AT_ONCE = game_of("xy.", 3, ((("x.", ".x"),), ((".y", "y."),)), ((2, "..x", 5), (2, "y..", -5)), (-2, 2))
# On a ring it is alike by all shifts.
WHEEL = game_of(".xy", 4, ((("x.", ".x"),), (("x", "y"),)), ((2, "yy", 4),), (0, 1), "ring")
# All beads are alike, on a ring, from behind, for both sides.
EVEN = game_of("abc", 3, (tuple((one, other) for one in "abc" for other in "abc" if one != other),) * 2, (), (0, 0), "ring")
LIKE = [LOPSIDED, MIRRORED, RECOLOURED, EXCHANGED, ALL_AT_ONCE, WHEEL, EVEN]


def turning_games(seed, many):
    """Games with turnings, and any."""
    return LIKE + alike_games(seed, many) + random_games(seed + 1, many // 4, 3, 3)
