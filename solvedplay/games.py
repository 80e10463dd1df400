"""What is a game, and what is a standing of it."""

from solvedplay.kinds import is_number_from, is_text_of, is_tuple_of

LETTERS = "abcdefghijklmnopqrstuvwxyz"
SIGNS = ".abcdefghijklmnopqrstuvwxyz"
SHAPES = ("line", "ring")
LONGEST_OLD = 3
MOST_RULES = 6
MOST_ENDS = 6
GREATEST = 9


def is_game(thing):
    """Whether thing is a game."""
    if not is_tuple_of(thing, 7):
        return False
    name, shape, beads, long, rules, ends, stuck = thing
    return is_head(name, shape, beads, long) and (
        is_rules_pair(beads, long, rules) and is_ends(beads, long, ends) and is_stuck(stuck))


def is_standing(game, thing):
    """Whether thing is a standing of the game."""
    if not is_tuple_of(thing, 2):
        return False
    side, row = thing
    return is_number_from(side, 0, 1) and is_text_of(row, game[2], game[3], game[3])


def rules_of(game):
    """The rising list of its rules (side, old, new)."""
    return [(side, old, new) for side in (0, 1) for old, new in game[4][side]]


def is_name(thing):
    return is_text_of(thing, LETTERS, 1, 8)


def is_head(name, shape, beads, long):
    return is_name(name) and shape in SHAPES and is_beads(beads) and is_number_from(long, 2, 7)


def is_beads(thing):
    return is_text_of(thing, SIGNS, 2, 4) and len(set(thing)) == len(thing)


def is_rules_pair(beads, long, thing):
    return is_tuple_of(thing, 2) and all([is_rules(beads, long, rules) for rules in thing])


def is_rules(beads, long, thing):
    if not (isinstance(thing, tuple) and len(thing) <= MOST_RULES):
        return False
    # Only what is known to be rules can be compared.
    return all([is_rule(beads, long, rule) for rule in thing]) and rises(thing)


def is_rule(beads, long, thing):
    """Whether thing is a pair (old, new) that may be a rule of a game with these beads."""
    if not is_tuple_of(thing, 2):
        return False
    old, new = thing
    most = min(LONGEST_OLD, long)
    return is_text_of(old, beads, 1, most) and is_text_of(new, beads, 1, most) and len(old) == len(new) and old != new


def is_ends(beads, long, thing):
    if not (isinstance(thing, tuple) and len(thing) <= MOST_ENDS):
        return False
    # Ends rise without two of one who and pattern just where their whos and patterns rise.
    return all([is_end(beads, long, end) for end in thing]) and rises([end[:2] for end in thing])


def is_end(beads, long, thing):
    """Whether thing is a tuple (who, pattern, worth) that may be an end of a game with these beads."""
    if not is_tuple_of(thing, 3):
        return False
    who, pattern, worth = thing
    return is_number_from(who, 0, 2) and is_text_of(pattern, beads, 1, long) and is_worth(worth) and worth != 0


def is_stuck(thing):
    return is_tuple_of(thing, 2) and all([is_worth(worth) for worth in thing])


def is_worth(thing):
    return is_number_from(thing, -GREATEST, GREATEST)


def rises(things):
    return all([things[at] < things[at + 1] for at in range(len(things) - 1)])
