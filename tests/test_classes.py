import random
import unittest

from solvedplay.classes import read_alike, solved_alike
from solvedplay.errors import TooMany
from solvedplay.reach import reached
from solvedplay.solving import solved, worth_of
from solvedplay.turnings import least_alike, turnings
from tests.asking import FORKED, GAMES, STUCK, refused
from tests.oracle import all_standings, game_of, listed, random_games, reach_of, solve, some_standings
from tests.plain_turnings import ALL_AT_ONCE, EVEN, EXCHANGED, LIKE, LOPSIDED, MIRRORED, WHEEL, alike_games, led_to

# Tuples (game, standing, how many are reached, how many of them are least ones). In the last one play ends late.
MANY = [
    (game_of("abc", 7, ((("a", "b"), ("a", "c"), ("b", "a"), ("b", "c"), ("c", "a"), ("c", "b")),) * 2,
             ((0, "aba", -3), (1, "aba", 3)), (0, 0), "ring"), (0, "aaaaaaa"), 4332, 195),
    (game_of("abc", 7, ((("a", "b"), ("a", "c"), ("b", "a"), ("c", "a")),) * 2,
             ((0, "bcb", -3), (0, "cbc", -3), (1, "bcb", 3), (1, "cbc", 3)), (0, 0), "ring"), (0, "aaaaaaa"), 2131, 102),
    (game_of("abc", 7, ((("b", "a"), ("c", "b"), ("cc", "aa")),) * 2,
             ((0, "abab", 2), (0, "baba", 2), (1, "abab", -2), (1, "baba", -2)), (-4, 4), "ring"), (0, "ccccccc"), 3238, 198),
]


def wanted(game, standings):
    """The least ones of all that are reached, with their worths, by plain ways."""
    told = solve(game, all_standings(game))
    leasts = {min(led_to(game, one)) for one in reach_of(game, standings)}
    return [(one, *told[one]) for one in sorted(leasts)]


class SolvedAlike(unittest.TestCase):
    def test_some(self):
        game = game_of(".x", 2, (((".", "x"),), (("x", "."),)), ((2, "xx", 3),), (0, 5))
        self.assertEqual(solved_alike(game, [(0, "x.")]), [((0, ".x"), 3, 1), ((1, "xx"), 3, 0)])
        self.assertEqual(solved_alike(game, [(0, "x."), (0, "..")]),
                         [((0, ".."), 0, None), ((0, ".x"), 3, 1), ((1, ".x"), 0, None), ((1, "xx"), 3, 0)])

    def test_no_begins(self):
        for game in LIKE + GAMES:
            self.assertEqual(solved_alike(game, []), [])
            self.assertEqual(solved_alike(game, [], most=1), [])

    def test_sides_exchanged(self):
        told = solved_alike(EXCHANGED, [(1, "...")])
        self.assertEqual(told, wanted(EXCHANGED, [(1, "...")]))
        self.assertEqual({row[0][0] for row in told}, {0})

    def test_without_turnings_as_solved(self):
        for game in [LOPSIDED] + random_games(351, 40, 3, 3):
            if turnings(game) == [(0, 0, 0, game[2])]:
                standings = some_standings(352, game, 3)
                self.assertEqual(solved_alike(game, standings), solved(game, standings))

    def test_drawn(self):
        signs = set()
        for game in LIKE + GAMES[:6] + alike_games(353, 120):
            for standings in (some_standings(354, game, 1), some_standings(355, game, 3) * 2):
                want = wanted(game, standings)
                self.assertEqual(solved_alike(game, standings, most=600), want)
                for one, worth, far in want:
                    signs.add((one[0], worth > 0, worth < 0, far is None, far == 0))
        self.assertTrue(len(signs) > 8, signs)

    def test_some_are_fewer_by_sides_exchanged_alone(self):
        many = 0
        for game in alike_games(356, 150):
            if {turning[:2] + turning[3:] for turning in turnings(game)} == {(0, 0, game[2])} and len(turnings(game)) == 2:
                many += 1
                standings = some_standings(357, game, 2)
                self.assertEqual(solved_alike(game, standings), wanted(game, standings))
        self.assertTrue(many > 2, many)

    def test_the_begins_need_not_be_least(self):
        for game in LIKE:
            for standing in some_standings(358, game, 3):
                want = solved_alike(game, [standing])
                for other in list(led_to(game, standing))[:4]:
                    self.assertEqual(solved_alike(game, [other]), want)
                self.assertEqual(solved_alike(game, list(led_to(game, standing))), want)

    def test_more_are_reached_than_may_be_least(self):
        for game, standing, many, least in MANY:
            refused(self, TooMany, 400, lambda: reached(game, [standing]))
            told = solved_alike(game, [standing])
            found = reached(game, [standing], most=10000)
            self.assertEqual((len(found), len(told)), (many, least))
            # Least ones needn't be reached themselves, where the sides are exchanged.
            rows = solved(game, found + [row[0] for row in told], most=10000)
            all_told = {one: (worth, far) for one, worth, far in rows}
            for one, worth, far in told:
                self.assertEqual(all_told[one], (worth, far))
            for one in random.Random(359).sample(found, 60):
                self.assertEqual(read_alike(game, told, one), all_told[one])
            self.assertEqual(solved_alike(game, [standing], most=least), told)
            refused(self, TooMany, least - 1, lambda: solved_alike(game, [standing], most=least - 1))

    def test_as_many_and_one_fewer(self):
        for game in LIKE + alike_games(360, 60):
            standings = some_standings(361, game, 2)
            want = solved_alike(game, standings, most=600)
            self.assertEqual(solved_alike(game, standings, most=len(want)), want)
            if len(want) > 1:
                refused(self, TooMany, len(want) - 1, lambda: solved_alike(game, standings, most=len(want) - 1))

    def test_too_many_begins(self):
        self.assertEqual(len(solved_alike(STUCK, [(0, ".."), (0, "xx"), (1, "..")], most=1)), 1)
        refused(self, TooMany, 1, lambda: solved_alike(STUCK, [(0, ".."), (0, ".x")], most=1))

    def test_kinds_and_lists(self):
        want = repr(solved_alike(MIRRORED, [(0, "xx.."), (1, ".x..")]))
        self.assertEqual(repr(solved_alike(listed(MIRRORED), [[0, "xx.."], [1, ".x.."]])), want)
        self.assertEqual(repr(solved_alike(MIRRORED, ((0, "xx.."), (1, ".x..")))), want)
        self.assertEqual(repr(solved_alike(game=MIRRORED, standings=[(0, "xx.."), (1, ".x..")], most=400)), want)
        with self.assertRaises(TypeError):
            solved_alike(MIRRORED, [], 400)

    def test_told_lists_are_the_askers_own(self):
        told, other = solved_alike(WHEEL, [(0, "xy..")]), solved_alike(WHEEL, [(0, "xy..")])
        told.clear()
        self.assertEqual(solved_alike(WHEEL, [(0, "xy..")]), other)


class ReadAlike(unittest.TestCase):
    def test_told_as_without_turnings(self):
        """[1] (e): a game solved by its turnings is told as without them."""
        swaps = set()
        for game in LIKE + alike_games(362, 80):
            standings = some_standings(363, game, 2)
            rows = solved_alike(game, standings)
            for one, worth, far in solved(game, standings, most=600):
                self.assertEqual(read_alike(game, rows, one), (worth, far))
                swaps.add((least_alike(game, one)[1][2], worth > 0, worth < 0, far is None))
        for swap in (0, 1):
            for signs in ((True, False, False), (False, True, False), (False, False, True)):
                self.assertIn((swap, *signs), swaps)

    def test_of_all_that_are_alike(self):
        for game in LIKE:
            rows = solved_alike(game, all_standings(game))
            for one in all_standings(game)[::3]:
                self.assertEqual(read_alike(game, rows, one), worth_of(game, one))

    def test_not_there(self):
        for game in LIKE + GAMES[:5]:
            for one in all_standings(game)[::9]:
                self.assertIsNone(read_alike(game, [], one))
        rows = solved_alike(MIRRORED, [(1, "...x")])
        self.assertEqual(rows, [((1, "...x"), 2, 0)])
        self.assertEqual(read_alike(MIRRORED, rows, (1, "x...")), (2, 0))
        self.assertIsNone(read_alike(MIRRORED, rows, (0, "x...")))
        self.assertIsNone(read_alike(MIRRORED, rows, (1, "..x.")))

    def test_the_other_way(self):
        rows = [((0, "..."), 6, 3), ((0, "..x"), -4, 2), ((0, ".x."), 0, None)]
        self.assertEqual(read_alike(EXCHANGED, rows, (0, "...")), (6, 3))
        self.assertEqual(read_alike(EXCHANGED, rows, (1, "...")), (-6, 3))
        self.assertEqual(read_alike(EXCHANGED, rows, (1, "x..")), (4, 2))
        self.assertEqual(repr(read_alike(EXCHANGED, rows, (1, ".x."))), "(0, None)")
        self.assertEqual(read_alike(ALL_AT_ONCE, [((0, "..x"), 5, 0)], (1, "y..")), (-5, 0))

    def test_kinds_and_lists(self):
        rows = solved_alike(EVEN, [(0, "abc")])
        for told in (read_alike(EVEN, rows, (1, "cab")), read_alike(listed(EVEN), listed(rows), [1, "cab"]),
                     read_alike(EVEN, tuple(rows), (1, "cab")), read_alike(game=EVEN, rows=rows, standing=(1, "cab"))):
            self.assertEqual(repr(told), "(0, None)")

    def test_forked(self):
        rows = solved_alike(FORKED, [(0, "ax..")])
        self.assertEqual(read_alike(FORKED, rows, (0, "ax..")), (5, 3))


if __name__ == "__main__":
    unittest.main()
