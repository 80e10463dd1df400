"""What tests of several files ask: games with much in them, things of all kinds, and refusals."""

from tests.oracle import after, all_standings, game_of, moves_of, random_games

TOGGLES = (("a", "b"), ("b", "a"))


def turned_round(game):
    """The same for the other side: rules, whos, stuck exchanged, worths the other way."""
    name, shape, beads, long, rules, ends, stuck = game
    ends = tuple(sorted((who if who == 2 else 1 - who, pattern, -worth) for who, pattern, worth in ends))
    return (name, shape, beads, long, rules[::-1], ends, (-stuck[1], -stuck[0]))


def other_turn(standing):
    return (1 - standing[0], standing[1])


def walk(ends, more=(), stuck=(0, 0)):
    """Side 0 moves x to the right, side 1 can only turn a and b over."""
    return game_of(".xab", 4, (tuple(sorted((("x.", ".x"),) + more)), TOGGLES), ends, stuck)


# A gain of side 0 three moves away, from (0, "ax.."), by (0, "b.x.") and (1, "b..x").
WALK = walk(((2, "..x", 5),))
START = (0, "ax..")
STEP = (1, "x.", ".x")
WALKED = (START, [STEP, (0, "a", "b"), (2, "x.", ".x")])
# There is a lesser gain within one move, too, by STOP.
STOP = (1, "x.", "..")
FORKED = walk(((2, "...", 2), (2, "..x", 5)), (("x.", ".."),))
# Side 0 turns over, or ends at a loss; side 1 can only turn over.
ROUND = game_of("abc", 2, ((("a", "b"), ("aa", "cc"), ("b", "a"), ("bb", "cc")), TOGGLES), ((2, "cc", -7),))
# Each takes one away; who has none left is stuck.
TAKING = game_of(".x", 4, ((("x", "."),), (("x", "."),)), (), (-3, 4))
# An x that goes round on a ring, whatever they do.
RINGED = game_of(".x", 3, ((("x.", ".x"),), (("x.", ".x"),)), shape="ring")
# Records of forty moves, and of one more.
LONG = ((0, "x.."), [(number % 3, "x.", ".x") for number in range(40)])
LONGER = ((0, "x.."), [(number % 3, "x.", ".x") for number in range(41)])
# All is over at once, at 0.
STUCK = game_of(".x", 2)

GAMES = [WALK, FORKED, ROUND, TAKING, RINGED, STUCK, turned_round(WALK), turned_round(FORKED), turned_round(ROUND)]


def asked_games(seed, many, longest=3):
    return GAMES + random_games(seed, many, longest, 3)


def small_games(seed, many):
    """Those that have few standings."""
    return [game for game in asked_games(seed, many) if len(all_standings(game)) < 100]


def random_record(dice, game, most):
    """A record of play from any standing, to an end or so many moves."""
    here = dice.choice(all_standings(game))
    record = (here, [])
    while moves_of(game, here) and len(record[1]) < most:
        record[1].append(dice.choice(moves_of(game, here)))
        here = after(game, here, record[1][-1])
    return record


# Things of all other kinds.
OTHERS = [None, True, False, 0, 1, -3, "", "0", "paper", (), [], [[]], ((),), [()], (1,), (1, 2), (1, 2, 3), (1, 2, 3, 4),
          [1, 2, 3], [None], [[None]], [(None, None, None)], (0, [], []), (0, (), ()), (None, [], []), [(1, 2)],
          ((((((((((((),),),),),),),),),),),), [[[[[[[[[[[[]]]]]]]]]]]]]


def refused(case, refusal, what, asked):
    """That asking is refused so, what being of the same kind, too."""
    with case.assertRaises(refusal) as caught:
        asked()
    case.assertEqual(repr(caught.exception.what), repr(what))


def swapped(rows, at, row):
    """The rows with another one in the place of one."""
    return rows[:at] + [row] + rows[at + 1:]
