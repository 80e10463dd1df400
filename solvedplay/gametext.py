"""Games as texts, and back."""

from solvedplay.errors import BadRow
from solvedplay.games import MOST_ENDS, MOST_RULES, is_end, is_head, is_rule
from solvedplay.words import number_in, worth_in


def game_text(game):
    """The text of a game."""
    name, shape, beads, long, rules, ends, stuck = game
    rows = [f"game {name} {shape} {beads} {long}"]
    for side in (0, 1):
        rows += [f"rule {side} {old} {new}" for old, new in rules[side]]
    rows += [f"end {who} {pattern} {worth}" for who, pattern, worth in ends]
    rows.append(f"stuck {stuck[0]} {stuck[1]}")
    return "\n".join(rows)


def game_in(text):
    """The game that has this text; BadRow of the first row that isn't so written or can't stand there."""
    rows = text.split("\n")
    head = head_in(rows[0])
    if head is None:
        raise BadRow(0)
    at = 1
    rules = []
    for side in (0, 1):
        rules.append(rules_in(head, side, rows[at:]))
        at += len(rules[side])
    ends = ends_in(head, rows[at:])
    at += len(ends)
    # Each sort of rows was read as far as it goes, so here is stuck, or the first row that is wrong.
    stuck = None if at == len(rows) else stuck_in(rows[at])
    if stuck is None:
        raise BadRow(at)
    if at + 1 < len(rows):
        raise BadRow(at + 1)
    return (*head, tuple(rules), ends, stuck)


def head_in(row):
    words = row.split(" ")
    if len(words) != 5 or words[0] != "game":
        return None
    name, shape, beads = words[1:4]
    long = number_in(words[4], 2, 7)
    return (name, shape, beads, long) if is_head(name, shape, beads, long) else None


def rules_in(head, side, rows):
    """The rules of a side with which these rows begin, as many as can stand there."""
    found = []
    for row in rows:
        rule = rule_in(head, side, row)
        if rule is None or len(found) == MOST_RULES or (found and rule <= found[-1]):
            break
        found.append(rule)
    return tuple(found)


def rule_in(head, side, row):
    words = row.split(" ")
    if len(words) != 4 or words[0] != "rule" or words[1] != str(side):
        return None
    rule = (words[2], words[3])
    return rule if is_rule(head[2], head[3], rule) else None


def ends_in(head, rows):
    """The ends with which these rows begin, as many as can stand there."""
    found = []
    for row in rows:
        end = end_in(head, row)
        if end is None or len(found) == MOST_ENDS or (found and end[:2] <= found[-1][:2]):
            break
        found.append(end)
    return tuple(found)


def end_in(head, row):
    words = row.split(" ")
    if len(words) != 4 or words[0] != "end":
        return None
    end = (number_in(words[1], 0, 2), words[2], worth_in(words[3]))
    return end if is_end(head[2], head[3], end) else None


def stuck_in(row):
    words = row.split(" ")
    if len(words) != 3 or words[0] != "stuck":
        return None
    stuck = (worth_in(words[1]), worth_in(words[2]))
    return None if None in stuck else stuck
