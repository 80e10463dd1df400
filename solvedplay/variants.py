"""Variants of games, and the changes that lead to them."""

from solvedplay.errors import BadChange
from solvedplay.games import is_game, rules_of
from solvedplay.kinds import copied, is_number, tupled

# What stands behind the word of each sort of change.
PARTS = {
    "shape": ("text",),
    "norule": ("number", "text", "text"),
    "rule": ("number", "text", "text"),
    "noend": ("number", "text", "number"),
    "end": ("number", "text", "number"),
    "stuck": ("number", "number"),
}


def varied(game, change):
    """The game with that change; BadChange where it's none, changes nothing, or what comes of it is no game."""
    own, made = tupled(game), tupled(change)
    fresh = changed(own, made) if is_change(made) else own
    if fresh == own or not is_game(fresh):
        raise BadChange(copied(change))
    return fresh


def changes(game, other):
    """The list of changes by which, one by one, the one game becomes the other."""
    own, goal = tupled(game), tupled(other)
    return (lacking("shape", [(goal[1],)], [(own[1],)])
            + lacking("norule", rules_of(own), rules_of(goal)) + lacking("rule", rules_of(goal), rules_of(own))
            + lacking("noend", own[5], goal[5]) + lacking("end", goal[5], own[5])
            + lacking("stuck", list(enumerate(goal[6])), list(enumerate(own[6]))))


def lacking(word, things, others):
    """A change of each of the things that isn't among the others."""
    return [(word, *thing) for thing in things if thing not in others]


def is_change(thing):
    """Whether thing has the parts of a change, kind by kind."""
    if not isinstance(thing, tuple) or thing == () or not isinstance(thing[0], str) or thing[0] not in PARTS:
        return False
    kinds = PARTS[thing[0]]
    return len(thing) == 1 + len(kinds) and all([is_part(kind, part) for kind, part in zip(kinds, thing[1:])])


def is_part(kind, thing):
    return isinstance(thing, str) if kind == "text" else is_number(thing)


def changed(game, change):
    """What the change makes of the game, be it a game or not."""
    name, shape, beads, long, rules, ends, stuck = game
    word, thing = change[0], change[1:]
    if word == "shape":
        shape = change[1]
    elif word in ("norule", "rule"):
        rules = rules_by_side(with_or_without(rules_of(game), thing, word == "rule"))
    elif word in ("noend", "end"):
        ends = tuple(with_or_without(ends, thing, word == "end"))
    else:
        stuck = tuple([change[2] if side == change[1] else stuck[side] for side in (0, 1)])
    return (name, shape, beads, long, rules, ends, stuck)


def with_or_without(things, thing, is_put):
    """The things with one more, in its place; or without it."""
    # One that is there already stands there twice then, and that's no game.
    return sorted([*things, thing]) if is_put else [one for one in things if one != thing]


def rules_by_side(rules):
    """The pair of the rules of each side; those of no side fall away, so that they change nothing."""
    return tuple([tuple([(old, new) for side, old, new in rules if side == wanted]) for wanted in (0, 1)])
