import unittest

from solvedplay.errors import TooMany
from solvedplay.solving import solved, worth_of
from tests.asking import TOGGLES, turned_round, walk
from tests.oracle import all_standings, game_of, listed, random_games, reach_of, solve, some_standings
from tests.samples import FOUR_HUNDRED, ONE_MORE


class Worths(unittest.TestCase):
    def check(self, game, standing, want):
        """Of the game, and of the same for the other side."""
        self.assertEqual(worth_of(game, standing), want, (game, standing))
        self.assertEqual(solve(game, [standing])[standing], want)
        other = (1 - standing[0], standing[1])
        worth, far = want
        self.assertEqual(worth_of(turned_round(game), other), (-worth, far), (game, standing))
        for told in (worth_of(game, standing), worth_of(turned_round(game), other)):
            self.assertIs(type(told), tuple)
            self.assertIs(type(told[0]), int)

    def test_ended_ones(self):
        game = game_of(".x", 3, ((("x", "."),), (("x", "."),)), ((0, "xx", 5), (0, "xxx", -5), (2, ".xx", -9)), (-2, 3))
        self.check(game, (0, "xx."), (5, 0))
        self.check(game, (0, "xxx"), (0, 0))
        self.check(game, (1, ".xx"), (-9, 0))
        self.check(game, (0, ".xx"), (-4, 0))
        self.check(game, (0, "..."), (-2, 0))
        self.check(game, (1, "..."), (3, 0))
        self.check(game_of(".x", 3), (0, "xxx"), (0, 0))

    def test_by_ends(self):
        game = walk(((2, "..x", 5),))
        self.check(game, (0, "ax.."), (5, 3))
        self.check(game, (1, "bx.."), (5, 4))
        self.check(game, (0, "a.x."), (5, 1))
        self.check(game, (1, "a.x."), (5, 2))
        self.check(game, (1, "a..x"), (5, 0))
        self.check(walk(((0, "..x", 5),)), (0, "ax.."), (5, 4))
        self.check(walk(((1, "..x", 5),)), (0, "ax.."), (5, 3))

    def test_each_worth(self):
        for worth in range(1, 10):
            self.check(walk(((2, "..x", worth),)), (0, "ax.."), (worth, 3))
            self.check(walk(((2, "..x", -worth),)), (1, "bx.."), (-worth, 4))
            # Of two that are next to one another the better one for the side that chooses, and far for it.
            if worth < 9:
                for first, later in ((worth, worth + 1), (-worth - 1, -worth)):
                    game = walk(((2, "...", first), (2, "..x", later)), (("x.", ".."),))
                    self.check(game, (0, "ax.."), (later, 3))

    def test_a_loss_by_ends(self):
        game = walk(((2, "..x", -5),))
        self.check(game, (0, "ax.."), (-5, 3))
        self.check(game, (1, "bx.."), (-5, 4))

    def test_by_being_stuck(self):
        # Each takes one away; who has none left is stuck.
        game = game_of(".x", 4, ((("x", "."),), (("x", "."),)), (), (-3, 4))
        for many in range(5):
            row = "x" * many + "." * (4 - many)
            self.check(game, (0, row), (-3 if many == 0 or many % 2 == 0 else 4, many))
            self.check(game, (1, row), (4 if many % 2 == 0 else -3, many))

    def test_stuck_at_nought(self):
        game = game_of(".x", 3, ((("x", "."),), (("x", "."),)), (), (0, 0))
        self.check(game, (0, "xxx"), (0, None))
        self.check(game, (0, "..."), (0, 0))

    def test_round_for_ever(self):
        game = game_of("ab", 2, (TOGGLES, TOGGLES))
        for standing in all_standings(game):
            self.check(game, standing, (0, None))

    def test_round_rather_than_lose(self):
        # Side 0 may turn over, or end at a loss.
        game = game_of("abc", 2, ((("a", "b"), ("aa", "cc"), ("b", "a"), ("bb", "cc")), TOGGLES), ((2, "cc", -7),))
        self.check(game, (0, "aa"), (0, None))
        self.check(game, (1, "ab"), (0, None))
        forced = game_of("abc", 2, ((("aa", "cc"), ("ab", "ba"), ("ba", "ab"), ("bb", "cc")), TOGGLES), ((2, "cc", -7),))
        self.check(forced, (0, "aa"), (-7, 1))
        self.check(forced, (0, "ab"), (-7, 3))
        self.check(forced, (1, "ab"), (-7, 2))

    def test_a_lesser_gain_nearer(self):
        game = walk(((2, "...", 2), (2, "..x", 5)), (("x.", ".."),))
        self.check(game, (0, "ax.."), (5, 3))
        self.check(game, (1, "ax.."), (5, 4))
        game = walk(((2, "...", 5), (2, "..x", 2)), (("x.", ".."),))
        self.check(game, (0, "ax.."), (5, 1))
        game = walk(((2, "...", 5), (2, "..x", 5)), (("x.", ".."),))
        self.check(game, (0, "ax.."), (5, 1))

    def test_the_other_side_may_choose_a_worse_end_to_be_later(self):
        # Side 0 can end at -1 at once, or walk on to -3: for -1 or less side 1 needs the longer way.
        game = walk(((2, "...", -1), (2, "..x", -3)), (("x.", ".."),))
        self.check(game, (0, "a.x."), (-1, 1))
        self.check(game, (0, "ax.."), (-1, 3))

    def test_gains_of_both_sides_in_one_game(self):
        game = game_of(".xy", 3, ((("x.", ".x"),), (("y.", ".y"),)), ((0, ".x", 6), (1, ".y", -6)), (-1, 1))
        for standing in all_standings(game):
            self.check(game, standing, solve(game, [standing])[standing])
        told = {row[1] for row in solved(game, all_standings(game))}
        self.assertTrue({6, -6, 1, -1} <= told)

    def test_nought_by_ends_alone(self):
        # All ends at 0, none farther than two moves, and still no far.
        game = game_of(".x", 2, ((("x", "."),), (("x", "."),)), ((2, "..", 5),), (0, 0))
        self.check(game, (0, "xx"), (5, 2))
        game = game_of(".x", 2, ((("x", "."),), (("x", "."),)), ((2, ".", 5), (2, "..", -5), (2, ".x", -5), (2, "x.", -5)))
        self.check(game, (0, "xx"), (0, None))
        self.check(game, (1, ".x"), (0, 0))


class Solved(unittest.TestCase):
    def check(self, game, begins, most=400):
        want = solve(game, begins)
        told = solved(game, begins, most=most)
        self.assertEqual(told, sorted((standing, worth, far) for standing, (worth, far) in want.items()), (game, begins))
        self.assertIs(type(told), list)

    def test_rising(self):
        game = game_of("ab", 2, ((("a", "b"),), (("b", "a"),)), (), (-1, 2))
        self.assertEqual(solved(game, [(1, "ab"), (0, "bb")]),
                         [((0, "aa"), 0, None), ((0, "bb"), -1, 0), ((1, "ab"), 0, None), ((1, "ba"), 0, None)])

    def test_no_begins(self):
        self.assertEqual(solved(game_of(), []), [])

    def test_begins_handed_in_twice(self):
        game = game_of("ab", 2, ((("a", "b"),), (("b", "a"),)), (), (-1, 2))
        begins = [(1, "ab"), (0, "bb")]
        self.assertEqual(solved(game, begins + begins), solved(game, begins[::-1]))

    def test_random_games(self):
        for number, game in enumerate(random_games(81, 300, 4, 3)):
            self.check(game, some_standings(number, game, 3))

    def test_all_standings_of_random_games(self):
        for game in random_games(82, 60, 4, 3):
            self.check(game, all_standings(game))
            for standing in all_standings(game)[::7]:
                self.assertEqual(worth_of(game, standing), solve(game, [standing])[standing], (game, standing))

    def test_four_hundred(self):
        for game, begin in FOUR_HUNDRED:
            self.check(game, [begin])
            self.assertEqual(len(solved(game, [begin])), 400)
            self.assertEqual(worth_of(game, begin), solve(game, [begin])[begin])
            self.check(turned_round(game), [(1 - begin[0], begin[1])])
        self.assertEqual([worth_of(game, begin) for game, begin in FOUR_HUNDRED], [(3, 3), (-2, 10), (0, None)])

    def test_what_was_told_may_be_handed_in_again(self):
        for game, begin in FOUR_HUNDRED + ONE_MORE:
            told = solved(game, [begin], most=401)
            self.assertEqual(solved(game, [row[0] for row in told], most=401), told)


class Most(unittest.TestCase):
    def refused(self, most, asked):
        with self.assertRaises(TooMany) as caught:
            asked()
        self.assertEqual(caught.exception.what, most)

    def test_one_more(self):
        for game, begin in ONE_MORE:
            self.refused(400, lambda: solved(game, [begin]))
            self.refused(400, lambda: worth_of(game, begin))
            self.refused(400, lambda: solved(game, [begin], most=400))
            want = solve(game, [begin])
            self.assertEqual(len(solved(game, [begin], most=401)), 401)
            self.assertEqual(worth_of(game, begin, most=401), want[begin])

    def test_as_many_one_fewer_one_more(self):
        for number, game in enumerate(random_games(83, 40, 3, 3)):
            begin = some_standings(number, game, 1)[0]
            many = len(reach_of(game, [begin]))
            for most in (many, many + 1, 400):
                self.assertEqual(len(solved(game, [begin], most=most)), many)
                self.assertEqual(worth_of(game, begin, most=most), solve(game, [begin])[begin])
            if many > 1:
                self.refused(many - 1, lambda: solved(game, [begin], most=many - 1))
                self.refused(many - 1, lambda: worth_of(game, begin, most=many - 1))

    def test_by_name_alone(self):
        for asked in (lambda: solved(game_of(), [(0, "...")], 400), lambda: worth_of(game_of(), (0, "..."), 400)):
            with self.assertRaises(TypeError):
                asked()

    def test_lists_for_tuples(self):
        game, begin = FOUR_HUNDRED[0]
        self.assertEqual(solved(listed(game), (listed(begin),)), solved(game, [begin]))
        self.assertEqual(worth_of(listed(game), listed(begin)), worth_of(game, begin))


if __name__ == "__main__":
    unittest.main()
