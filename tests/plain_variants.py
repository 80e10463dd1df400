"""Slow and plain ways to tell variants and what they leave as it was, and changes to ask of. Nothing here reads the
program."""

from tests.oracle import end_of, moves_of, random_ends, random_rules, reach_of


def random_change(dice, game):
    """Any change, most of which can't be made."""
    beads = game[2] + dice.choice(["", "", "q"])
    text, other = ["".join(dice.choice(beads) for at in range(dice.randint(1, 4))) for number in (0, 1)]
    side, worth = dice.choice([0, 0, 1, 1, 2, -1]), dice.randint(-11, 11)
    rules = [(at, *rule) for at in (0, 1) for rule in game[4][at]]
    word = dice.choice(["shape", "norule", "rule", "rule", "noend", "end", "end", "stuck"])
    if word == "shape":
        return (word, dice.choice(["line", "ring", "knot"]))
    if word == "norule" and rules and dice.random() < 0.7:
        return (word, *dice.choice(rules))
    if word == "noend" and game[5] and dice.random() < 0.7:
        return (word, *dice.choice(game[5]))
    if word in ("norule", "rule"):
        return (word, side, text, (other * 4)[:len(text)] if dice.random() < 0.9 else other)
    return (word, side, worth) if word == "stuck" else (word, dice.choice([side, 2]), text, worth)


def plain_varied(game, change):
    """What varied must tell, by the words of the document; None where it's refused."""
    name, shape, beads, long, rules, ends, stuck = game
    word, rest = change[0], change[1:]
    rules = [set(side) for side in rules]
    if word == "shape":
        shape = rest[0]
    elif word in ("norule", "rule"):
        if rest[0] not in (0, 1) or (rest[1:] in rules[rest[0]]) != (word == "norule"):
            return None
        rules[rest[0]] ^= {rest[1:]}
    elif word == "noend":
        if rest not in ends:
            return None
        ends = tuple(end for end in ends if end != rest)
    elif word == "end":
        if rest[:2] in [end[:2] for end in ends]:
            return None
        ends = tuple(sorted(ends + (rest,)))
    elif word == "stuck":
        if rest[0] not in (0, 1):
            return None
        stuck = (rest[1], stuck[1]) if rest[0] == 0 else (stuck[0], rest[1])
    fresh = (name, shape, beads, long, tuple(tuple(sorted(side)) for side in rules), ends, stuck)
    return fresh if is_right(fresh) and fresh != game else None


def other_of(dice, game):
    """A game of the same name, beads and long."""
    beads, long = game[2:4]
    rules = list(game[4])
    for side in (0, 1):
        if dice.random() < 0.5:
            rules[side] = random_rules(dice, beads, long, 6)
    ends = random_ends(dice, beads, long, 6) if dice.random() < 0.5 else tuple(
        end[:2] + (dice.choice([end[2], 1, -2]),) for end in game[5] if dice.random() < 0.8)
    stuck = (dice.choice([game[6][0], 3]), dice.choice([game[6][1], -9]))
    return (game[0], dice.choice(["line", "ring"]), beads, long, tuple(rules), ends, stuck)


def is_right(game):
    """Whether what a change made of a game is one."""
    name, shape, beads, long, rules, ends, stuck = game
    texts = [text for side in rules for rule in side for text in rule] + [end[1] for end in ends]
    return (shape in ("line", "ring") and all(set(text) <= set(beads) and text for text in texts)
            and all(len(old) == len(new) <= min(3, long) and old != new for side in rules for old, new in side)
            and all(who in (0, 1, 2) and len(pattern) <= long and 0 < abs(worth) <= 9 for who, pattern, worth in ends)
            and max(len(rules[0]), len(rules[1]), len(ends)) <= 6 and max(abs(worth) for worth in stuck) <= 9)


def touched_by(game, other, standings):
    """The set of those reached by game of which the games tell another end, or other moves."""
    return {one for one in reach_of(game, standings)
            if (end_of(game, one), moves_of(game, one)) != (end_of(other, one), moves_of(other, one))}


def kept_by(game, other, standings):
    """The set of those reached by game from which none of these is reached."""
    touched = touched_by(game, other, standings)
    return {one for one in reach_of(game, standings) if not touched & set(reach_of(game, [one]))}
