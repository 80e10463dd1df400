import random
import unittest

from solvedplay.games import is_game
from solvedplay.moves import done, ended, moves
from solvedplay.solving import solved
from solvedplay.turnings import alike, least_alike, turned, turned_game, turned_move, turnings
from tests.oracle import after, all_standings, game_of, listed, moves_of, random_game, random_games, solve
from tests.plain_turnings import (ALL_AT_ONCE, EVEN, EXCHANGED, LIKE, LOPSIDED, MIRRORED, RECOLOURED, WHEEL, all_turnings,
                                  alike_games, identity, led_to, plain_game, plain_turned, plain_turnings, turning_games)

LINE = game_of(".xy", 4)
RING = game_of(".xy", 4, shape="ring")
FOUR = game_of("cab.", 7, shape="ring")


def back_again(game, turning):
    """The turning that leads back."""
    back, shift, swap, beads = turning
    become = "".join(game[2][beads.index(bead)] for bead in game[2])
    # Read from behind, a shift goes the other way.
    return (back, shift if back == 1 else -shift % game[3], swap, become)


class Turned(unittest.TestCase):
    def test_nothing(self):
        for game in (LINE, RING):
            for standing in all_standings(game):
                self.assertEqual(turned(game, (0, 0, 0, ".xy"), standing), standing)

    def test_each_part_alone(self):
        for game in (LINE, RING):
            self.assertEqual(turned(game, (1, 0, 0, ".xy"), (0, "xy..")), (0, "..yx"))
            self.assertEqual(turned(game, (0, 0, 1, ".xy"), (0, "xy..")), (1, "xy.."))
            self.assertEqual(turned(game, (0, 0, 1, ".xy"), (1, "xy..")), (0, "xy.."))
            self.assertEqual(turned(game, (0, 0, 0, "xy."), (1, "xy..")), (1, "y.xx"))
            self.assertEqual(turned(game, (0, 0, 0, ".yx"), (1, "xy..")), (1, "yx.."))
        self.assertEqual(turned(RING, (0, 1, 0, ".xy"), (0, "xy..")), (0, "y..x"))
        self.assertEqual(turned(RING, (0, 3, 0, ".xy"), (0, "xy..")), (0, ".xy."))

    def test_all_together(self):
        self.assertEqual(turned(RING, (1, 1, 1, "xy."), (0, "xy..")), (1, "x.yx"))
        self.assertEqual(turned(FOUR, (1, 5, 1, ".bac"), (1, "cab.cab")), (0, "b.ab.ca"))

    def test_as_told_plainly(self):
        dice = random.Random(331)
        for game in random_games(332, 40, 4, 4) + [LINE, RING]:
            chosen = all_turnings(game)
            for standing in dice.sample(all_standings(game), 4):
                for turning in dice.sample(chosen, min(len(chosen), 20)):
                    self.assertEqual(turned(game, turning, standing), plain_turned(game, turning, standing))

    def test_there_and_back(self):
        for game in (LINE, RING, game_of("x.", 2), game_of("x.", 2, shape="ring")):
            for turning in all_turnings(game):
                for standing in all_standings(game)[::7]:
                    self.assertEqual(turned(game, back_again(game, turning), turned(game, turning, standing)), standing)

    def test_kinds_and_lists(self):
        for told in (turned(RING, (1, 1, 1, "xy."), (0, "xy..")), turned(listed(RING), [1, 1, 1, "xy."], [0, "xy.."]),
                     turned(game=RING, turning=(1, 1, 1, "xy."), standing=(0, "xy.."))):
            self.assertEqual(repr(told), "(1, 'x.yx')")


class TurnedMove(unittest.TestCase):
    def test_each_part_alone(self):
        for game in (LINE, RING):
            self.assertEqual(turned_move(game, (0, 0, 0, ".xy"), (1, "xy.", "..x")), (1, "xy.", "..x"))
            self.assertEqual(turned_move(game, (1, 0, 0, ".xy"), (1, "xy.", "..x")), (0, ".yx", "x.."))
            self.assertEqual(turned_move(game, (1, 0, 0, ".xy"), (0, "x", ".")), (3, "x", "."))
            self.assertEqual(turned_move(game, (0, 0, 1, ".xy"), (1, "xy", "..")), (1, "xy", ".."))
            self.assertEqual(turned_move(game, (0, 0, 0, "xy."), (1, "xy", ".x")), (1, "y.", "xy"))
        self.assertEqual(turned_move(RING, (0, 1, 0, ".xy"), (1, "xy", "..")), (0, "xy", ".."))
        self.assertEqual(turned_move(RING, (0, 3, 0, ".xy"), (1, "xy", "..")), (2, "xy", ".."))
        self.assertEqual(turned_move(RING, (0, 2, 0, ".xy"), (0, "xy", "..")), (2, "xy", ".."))

    def test_across_the_end_of_a_ring(self):
        self.assertEqual(turned_move(RING, (1, 0, 0, ".xy"), (3, "xy", "..")), (3, "yx", ".."))
        self.assertEqual(turned_move(RING, (1, 0, 0, ".xy"), (2, "xy.", "...")), (3, ".yx", "..."))
        self.assertEqual(turned_move(RING, (0, 1, 0, ".xy"), (3, "xy", "..")), (2, "xy", ".."))
        self.assertEqual(turned_move(RING, (0, 1, 0, ".xy"), (0, "xy", "..")), (3, "xy", ".."))
        self.assertEqual(turned_move(RING, (1, 3, 1, "y.x"), (3, "xy.", "...")), (3, "yx.", "yyy"))

    def test_to_the_turned_ones(self):
        """Made by the turned game a turned move leads the turned standing to the turned one behind."""
        dice = random.Random(333)
        many = 0
        for game in random_games(334, 120, 4, 4) + LIKE:
            chosen = all_turnings(game)
            for turning in dice.sample(chosen, min(len(chosen), 6)):
                other = turned_game(game, turning)
                for standing in dice.sample(all_standings(game), 6):
                    there = turned(game, turning, standing)
                    self.assertEqual(ended(other, there), None if ended(game, standing) is None
                                     else ended(game, standing) * (-1 if turning[2] else 1))
                    made = [turned_move(game, turning, move) for move in moves_of(game, standing)]
                    self.assertEqual(sorted(made), moves(other, there))
                    for move in moves_of(game, standing):
                        self.assertEqual(done(other, there, turned_move(game, turning, move)),
                                         turned(game, turning, after(game, standing, move)))
                        many += 1
        self.assertTrue(many > 1000, many)

    def test_kinds_and_lists(self):
        for told in (turned_move(RING, (1, 0, 0, ".xy"), (3, "xy", "..")),
                     turned_move(listed(RING), [1, 0, 0, ".xy"], [3, "xy", ".."]),
                     turned_move(game=RING, turning=(1, 0, 0, ".xy"), move=(3, "xy", ".."))):
            self.assertEqual(repr(told), "(3, 'yx', '..')")


class TurnedGame(unittest.TestCase):
    GAME = game_of("ax.", 3, ((("a", "x"), ("ax", ".."), ("x.", ".x")), (("xx.", "aaa"),)),
                   ((0, "a.", 3), (1, "xx.", -4), (2, ".a", 9)), (-2, 7), "ring", "name")

    def test_nothing(self):
        self.assertEqual(turned_game(self.GAME, (0, 0, 0, "ax.")), self.GAME)
        self.assertEqual(turned_game(self.GAME, (0, 2, 0, "ax.")), self.GAME)

    def test_from_behind(self):
        self.assertEqual(turned_game(self.GAME, (1, 0, 0, "ax.")),
                         game_of("ax.", 3, (((".x", "x."), ("a", "x"), ("xa", "..")), ((".xx", "aaa"),)),
                                 ((0, ".a", 3), (1, ".xx", -4), (2, "a.", 9)), (-2, 7), "ring", "name"))

    def test_other_beads(self):
        self.assertEqual(turned_game(self.GAME, (0, 0, 0, "x.a")),
                         game_of("ax.", 3, (((".a", "a."), ("x", "."), ("x.", "aa")), (("..a", "xxx"),)),
                                 ((0, "xa", 3), (1, "..a", -4), (2, "ax", 9)), (-2, 7), "ring", "name"))

    def test_sides_exchanged(self):
        self.assertEqual(turned_game(self.GAME, (0, 0, 1, "ax.")),
                         game_of("ax.", 3, ((("xx.", "aaa"),), (("a", "x"), ("ax", ".."), ("x.", ".x"))),
                                 ((0, "xx.", 4), (1, "a.", -3), (2, ".a", -9)), (-7, 2), "ring", "name"))

    def test_all_together(self):
        self.assertEqual(turned_game(self.GAME, (1, 1, 1, "x.a")),
                         game_of("ax.", 3, ((("a..", "xxx"),), ((".x", "aa"), ("a.", ".a"), ("x", "."))),
                                 ((0, "a..", 4), (1, "ax", -3), (2, "xa", -9)), (-7, 2), "ring", "name"))

    def test_rules_of_one_side_alone(self):
        game = game_of(".x", 2, (((".", "x"),), ()), (), (0, 3))
        self.assertEqual(turned_game(game, (0, 0, 1, ".x")), game_of(".x", 2, ((), ((".", "x"),)), (), (-3, 0)))
        self.assertEqual(turned_game(game, (0, 0, 0, "x.")), game_of(".x", 2, ((("x", "."),), ()), (), (0, 3)))

    def test_there_and_back(self):
        dice = random.Random(335)
        for number in range(60):
            game = random_game(dice, 5, 4)
            for turning in dice.sample(all_turnings(game), 4):
                other = turned_game(game, turning)
                self.assertIs(is_game(other), True)
                self.assertEqual(other, plain_game(game, turning))
                self.assertEqual(turned_game(other, back_again(game, turning)), game)

    def test_kinds_and_lists(self):
        want = turned_game(self.GAME, (1, 0, 1, "x.a"))
        self.assertEqual(turned_game(listed(self.GAME), [1, 0, 1, "x.a"]), want)
        self.assertEqual(turned_game(game=self.GAME, turning=(1, 0, 1, "x.a")), want)


class Turnings(unittest.TestCase):
    def test_nothing_but_what_changes_nothing(self):
        self.assertEqual(turnings(LOPSIDED), [(0, 0, 0, ".xy")])

    def test_each_part(self):
        self.assertEqual(turnings(MIRRORED), [(0, 0, 0, ".x"), (1, 0, 0, ".x")])
        self.assertEqual(turnings(RECOLOURED), [(0, 0, 0, "ab."), (0, 0, 0, "ba."), (1, 0, 0, "ab."), (1, 0, 0, "ba.")])
        self.assertEqual(turnings(EXCHANGED), [(0, 0, 0, ".x"), (0, 0, 1, ".x"), (1, 0, 0, ".x"), (1, 0, 1, ".x")])
        self.assertEqual(turnings(ALL_AT_ONCE), [(0, 0, 0, "xy."), (1, 0, 1, "yx.")])
        self.assertEqual(turnings(WHEEL), [(0, 0, 0, ".xy"), (0, 1, 0, ".xy"), (0, 2, 0, ".xy"), (0, 3, 0, ".xy")])
        self.assertEqual(turnings(EVEN), all_turnings(EVEN))

    def test_a_game_of_nothing(self):
        for beads in ("x.", ".x", "abcd"):
            for shape in ("line", "ring"):
                game = game_of(beads, 4, shape=shape)
                self.assertEqual(turnings(game), all_turnings(game))
        game = game_of(".x", 3, stuck=(1, 1))
        self.assertEqual(turnings(game), [(0, 0, 0, ".x"), (0, 0, 0, "x."), (1, 0, 0, ".x"), (1, 0, 0, "x.")])
        self.assertEqual(len(turnings(FOUR)), 2 * 7 * 2 * 24)

    def test_against_all_that_there_may_be(self):
        sizes = set()
        for game in turning_games(336, 80) + alike_games(337, 20, 5, 4):
            want = plain_turnings(game)
            self.assertEqual(turnings(game), want)
            self.assertIn(identity(game), want)
            sizes.add(len(want))
        self.assertTrue({1, 2, 4, 3, 6} <= sizes, sizes)

    def test_worths_at_both_ends(self):
        # Just what is told of the one side holds the other way of the other one.
        game = EXCHANGED[:6] + ((3, 3),)
        self.assertEqual(turnings(game), [(0, 0, 0, ".x"), (1, 0, 0, ".x")])
        game = EXCHANGED[:5] + (((0, "xx", 4), (1, "xx", 4)), (3, -3))
        self.assertEqual(turnings(game), [(0, 0, 0, ".x"), (1, 0, 0, ".x")])
        game = EXCHANGED[:5] + (((2, "xx", 4),), (3, -3))
        self.assertEqual(turnings(game), [(0, 0, 0, ".x"), (1, 0, 0, ".x")])

    def test_kinds_and_lists(self):
        self.assertEqual(repr(turnings(listed(MIRRORED))), "[(0, 0, 0, '.x'), (1, 0, 0, '.x')]")
        told, other = turnings(game=MIRRORED), turnings(MIRRORED)
        told.clear()
        self.assertEqual((len(other), len(turnings(MIRRORED))), (2, 2))


class Alike(unittest.TestCase):
    def test_some(self):
        self.assertEqual(alike(MIRRORED, (0, "x..."), (0, "...x")), (1, 0, 0, ".x"))
        self.assertEqual(alike(MIRRORED, (0, "x..."), (1, "...x")), None)
        self.assertEqual(alike(MIRRORED, (0, "x..x"), (0, "x..x")), (0, 0, 0, ".x"))
        self.assertEqual(alike(RECOLOURED, (0, "a.b"), (0, "b.a")), (0, 0, 0, "ba."))
        self.assertEqual(alike(EXCHANGED, (0, "x.."), (1, "..x")), (1, 0, 1, ".x"))
        self.assertEqual(alike(EXCHANGED, (0, ".x."), (1, ".x.")), (0, 0, 1, ".x"))
        self.assertEqual(alike(WHEEL, (0, "x.y."), (0, "y.x.")), (0, 2, 0, ".xy"))
        self.assertEqual(alike(WHEEL, (0, "x.x."), (0, ".x.x")), (0, 1, 0, ".xy"))
        self.assertEqual(alike(LOPSIDED, (0, "x.y"), (0, "y.x")), None)
        self.assertEqual(alike(LOPSIDED, (0, "x.y"), (0, "x.y")), (0, 0, 0, ".xy"))

    def test_the_first_may_be_another_than_that_which_changes_nothing(self):
        game = game_of("ba.", 2)
        self.assertEqual(alike(game, (0, "aa"), (0, "aa")), (0, 0, 0, ".ab"))
        self.assertEqual(alike(game, (0, ".."), (0, "..")), (0, 0, 0, "ab."))

    def test_drawn(self):
        dice = random.Random(338)
        for game in turning_games(339, 40):
            standings = all_standings(game)
            for one in dice.sample(standings, 3):
                want = led_to(game, one)
                for other in dice.sample(standings, 5) + list(want)[:3]:
                    self.assertEqual(alike(game, one, other), want.get(other))

    def test_kinds_and_lists(self):
        for told in (alike(listed(MIRRORED), [0, "x..."], [0, "...x"]),
                     alike(game=MIRRORED, one=(0, "x..."), other=(0, "...x"))):
            self.assertEqual(repr(told), "(1, 0, 0, '.x')")


class LeastAlike(unittest.TestCase):
    def test_some(self):
        self.assertEqual(least_alike(MIRRORED, (0, "x...")), ((0, "...x"), (1, 0, 0, ".x")))
        self.assertEqual(least_alike(MIRRORED, (0, "...x")), ((0, "...x"), (0, 0, 0, ".x")))
        self.assertEqual(least_alike(EXCHANGED, (1, "x..")), ((0, "..x"), (1, 0, 1, ".x")))
        self.assertEqual(least_alike(EXCHANGED, (1, ".x.")), ((0, ".x."), (0, 0, 1, ".x")))
        self.assertEqual(least_alike(WHEEL, (1, "yx..")), ((1, "..yx"), (0, 2, 0, ".xy")))
        self.assertEqual(least_alike(WHEEL, (1, "x.x.")), ((1, ".x.x"), (0, 1, 0, ".xy")))
        self.assertEqual(least_alike(LOPSIDED, (1, "yx.")), ((1, "yx."), (0, 0, 0, ".xy")))

    def test_drawn(self):
        dice = random.Random(340)
        for game in turning_games(341, 40) + alike_games(342, 10, 5, 4):
            for one in dice.sample(all_standings(game), 5):
                want = led_to(game, one)
                self.assertEqual(least_alike(game, one), (min(want), want[min(want)]))

    def test_all_that_are_alike_have_one(self):
        for game in LIKE:
            leasts = {one: least_alike(game, one)[0] for one in all_standings(game)}
            for one in all_standings(game)[::5]:
                self.assertEqual({leasts[other] for other in led_to(game, one)}, {leasts[one]})
                self.assertEqual(leasts[leasts[one]], leasts[one])

    def test_kinds_and_lists(self):
        for told in (least_alike(listed(MIRRORED), [0, "x..."]), least_alike(game=MIRRORED, standing=(0, "x..."))):
            self.assertEqual(repr(told), "((0, '...x'), (1, 0, 0, '.x'))")


class Worths(unittest.TestCase):
    def test_one_worth(self):
        """[1] (e): the worth of a turned standing is the same, taken the other way where swap is 1, and far is the same."""
        dice = random.Random(343)
        seen = set()
        for game in LIKE + alike_games(344, 60):
            told = {one: (worth, far) for one, worth, far in solved(game, all_standings(game), most=500)}
            for turning in turnings(game):
                for one in dice.sample(all_standings(game), 6):
                    worth, far = told[one]
                    want = (-worth if turning[2] == 1 else worth, far)
                    self.assertEqual(told[turned(game, turning, one)], want)
                    seen.add((turning[2], worth > 0, worth < 0, far is None))
        self.assertTrue(len(seen) >= 7, seen)

    def test_a_turned_game(self):
        """Turned game and turned standings have the worths, whether the game becomes itself or not."""
        dice = random.Random(345)
        for game in random_games(346, 25, 3, 3):
            told = solve(game, all_standings(game))
            for turning in dice.sample(all_turnings(game), 3):
                other = solve(turned_game(game, turning), all_standings(game))
                for one in told:
                    worth, far = told[one]
                    self.assertEqual(other[turned(game, turning, one)], (-worth if turning[2] else worth, far))


if __name__ == "__main__":
    unittest.main()
