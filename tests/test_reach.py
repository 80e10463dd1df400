import unittest

from solvedplay.errors import TooMany
from solvedplay.reach import MOST, reached, unused, ways_back
from tests.oracle import (after, all_standings, behind, game_of, listed, moves_of, places, random_games, reach_of,
                          some_standings)
from tests.samples import FOUR_HUNDRED, ONE_MORE

FILL = game_of(".ab", 2, (((".", "a"), (".", "b")), (("a", "."), ("b", "a"))))
FILL_REACHED = [(0, ".."), (1, "a."), (1, "b."), (1, ".a"), (1, ".b"), (0, "a."), (0, ".a"), (1, "aa"), (1, "ab"),
                (1, "ba"), (0, ".b"), (0, "aa"), (0, "b."), (1, "bb"), (0, "ab"), (0, "ba")]


class Reached(unittest.TestCase):
    def test_most(self):
        self.assertEqual(MOST, 400)
        self.assertIs(type(MOST), int)

    def test_round_by_round(self):
        self.assertEqual(reached(FILL, [(0, "..")]), FILL_REACHED)

    def test_begins_first(self):
        told = reached(FILL, [(0, "ba"), (1, "aa"), (0, "..")])
        self.assertEqual(told, [(0, "ba"), (1, "aa"), (0, ".."), (0, ".a"), (0, "a."), (1, "a."), (1, "b."), (1, ".a"),
                                (1, ".b"), (1, "ba"), (1, "ab"), (0, "aa"), (0, "b."), (0, ".b"), (1, "bb"), (0, "ab")])
        self.assertEqual(told, reach_of(FILL, [(0, "ba"), (1, "aa"), (0, "..")]))

    def test_begins_handed_in_twice(self):
        self.assertEqual(reached(FILL, [(0, ".."), (0, "..")]), FILL_REACHED)
        self.assertEqual(reached(FILL, [(0, "ab"), (0, "ba"), (0, "ab")]), [(0, "ab"), (0, "ba")])
        self.assertEqual(reached(FILL, [[0, "ab"], (0, "ba"), (0, "ab")], most=2), [(0, "ab"), (0, "ba")])

    def test_begins_that_others_come_to(self):
        told = reached(FILL, [(0, ".."), (0, "ba"), (1, "ab")])
        self.assertEqual(told[:3], [(0, ".."), (0, "ba"), (1, "ab")])
        self.assertEqual(sorted(told), sorted(FILL_REACHED))
        self.assertEqual(told, reach_of(FILL, [(0, ".."), (0, "ba"), (1, "ab")]))

    def test_no_begins(self):
        self.assertEqual(reached(FILL, []), [])
        self.assertEqual(reached(FILL, (), most=1), [])

    def test_none_goes_on_from_an_ended_one(self):
        stopped = FILL[:5] + (((1, "b", 3),), (0, 0))
        self.assertEqual(reached(stopped, [(0, "..")]), [(0, ".."), (1, "a."), (1, "b."), (1, ".a"), (1, ".b")])
        nought = FILL[:5] + (((1, "b", 3), (1, "b.", -3)), (0, 0))
        self.assertEqual(reached(nought, [(1, "b.")]), [(1, "b.")])

    def test_random_games(self):
        for number, game in enumerate(random_games(71, 150, 4, 3)):
            for many in (1, 2, 5):
                begins = some_standings(number, game, many)
                self.assertEqual(reached(game, begins), reach_of(game, begins), (game, begins))


class Most(unittest.TestCase):
    def check(self, game, begins, many):
        for most in (many, many + 1, many + 2, 400):
            self.assertEqual(len(reached(game, begins, most=most)), many)
            self.assertEqual(len(unused(game, begins, most=most)), 2)
            self.assertIsInstance(ways_back(game, begins, begins[0], most=most), list)
        for most in (1, many - 1):
            for asked in (lambda: reached(game, begins, most=most), lambda: unused(game, begins, most=most),
                          lambda: ways_back(game, begins, begins[0], most=most)):
                with self.assertRaises(TooMany) as caught:
                    asked()
                self.assertEqual(caught.exception.what, most)

    def test_as_many_one_fewer_one_more(self):
        self.check(FILL, [(0, "..")], 16)
        self.check(FILL, [(0, "ab"), (0, "ba"), (0, "ab")], 2)
        self.check(FILL, [(0, "ba"), (1, "aa"), (0, "..")], 16)

    def test_begins_alone_are_too_many(self):
        begins = [(0, "ab"), (0, "ba"), (0, "aa")]
        with self.assertRaises(TooMany) as caught:
            reached(FILL, begins, most=2)
        self.assertEqual(caught.exception.what, 2)
        self.assertEqual(reached(FILL, begins, most=3), begins)
        self.assertEqual(reached(FILL, [(0, "ab")], most=1), [(0, "ab")])

    def test_left_out(self):
        for game, begin in FOUR_HUNDRED:
            self.assertEqual(reached(game, [begin]), reach_of(game, [begin]))
            self.assertEqual(len(reached(game, [begin])), 400)
            self.assertEqual(len(unused(game, [begin])), 2)
            ways_back(game, [begin], begin)
        for game, begin in ONE_MORE:
            self.assertEqual(len(reached(game, [begin], most=401)), 401)
            for asked in (lambda: reached(game, [begin]), lambda: unused(game, [begin]),
                          lambda: ways_back(game, [begin], begin), lambda: reached(game, [begin], most=400)):
                with self.assertRaises(TooMany) as caught:
                    asked()
                self.assertEqual(caught.exception.what, 400)

    def test_many_begins(self):
        still = game_of(".abc", 4)
        begins = all_standings(still)
        self.assertEqual(reached(still, begins[:400]), begins[:400])
        with self.assertRaises(TooMany) as caught:
            reached(still, begins[:401])
        self.assertEqual(caught.exception.what, 400)

    def test_what_was_told_may_be_handed_in_again(self):
        still = game_of(".abc", 4)
        told = reached(still, all_standings(still), most=512)
        self.assertEqual(len(told), 512)
        self.assertEqual(reached(still, told, most=512), told)
        game, begin = FOUR_HUNDRED[0]
        told = reached(game, [begin])
        self.assertEqual(reached(game, told), told)
        self.assertEqual(sorted(reached(game, told[::-1])), sorted(told))

    def test_by_name_alone(self):
        for asked in (lambda: reached(FILL, [(0, "..")], 400), lambda: unused(FILL, [(0, "..")], 400),
                      lambda: ways_back(FILL, [(0, "..")], (0, ".."), 400)):
            with self.assertRaises(TypeError):
                asked()


def plain_unused(game, standings):
    found = reach_of(game, standings)
    used = {(one[0], move[1], move[2]) for one in found for move in moves_of(game, one)}
    rules = [(side, old, new) for side in (0, 1) for old, new in game[4][side] if (side, old, new) not in used]
    met = {end for end in game[5] for side, row in found if end[0] in (side, 2) and places(game, row, end[1])}
    return (rules, [end for end in game[5] if end not in met])


class Unused(unittest.TestCase):
    def test_all_used(self):
        self.assertEqual(unused(FILL, [(0, "..")]), ([], []))

    def test_rules_of_both_sides(self):
        self.assertEqual(unused(FILL, [(0, "ab")]),
                         ([(0, ".", "a"), (0, ".", "b"), (1, "a", "."), (1, "b", "a")], []))
        self.assertEqual(unused(FILL, [(1, "a.")])[0], [])
        stopped = FILL[:5] + (((0, "..", 1),), (0, 0))
        self.assertEqual(unused(stopped, [(1, "a.")]), ([(0, ".", "a"), (0, ".", "b"), (1, "b", "a")], []))
        self.assertEqual(unused(stopped, [(0, "..")]),
                         ([(0, ".", "a"), (0, ".", "b"), (1, "a", "."), (1, "b", "a")], []))

    def test_a_rule_of_one_side_alone(self):
        game = game_of("ab", 2, ((("a", "b"),), (("a", "b"),)))
        self.assertEqual(unused(game, [(0, "ab")]), ([(1, "a", "b")], []))
        self.assertEqual(unused(game, [(1, "ab")]), ([(0, "a", "b")], []))
        self.assertEqual(unused(game, [(1, "aa")]), ([], []))

    def test_a_rule_whose_old_stands_in_an_ended_one_alone(self):
        game = game_of("ab", 2, ((("a", "b"),), (("b", "a"),)), ((0, "aa", 5),))
        self.assertEqual(unused(game, [(0, "aa")]), ([(0, "a", "b"), (1, "b", "a")], []))

    def test_one_of_two_rules_with_one_old(self):
        game = game_of("abc", 2, ((("a", "b"), ("ab", "cb")), ()))
        self.assertEqual(unused(game, [(0, "ba")]), ([(0, "ab", "cb")], []))
        self.assertEqual(unused(game, [(0, "ab")]), ([], []))

    def test_ends_of_each_who(self):
        ends = ((0, "aa", 1), (1, "aa", 2), (2, "aa", 3))
        game = game_of("ab", 2, ((), ()), ends)
        self.assertEqual(unused(game, [(0, "aa")]), ([], [(1, "aa", 2)]))
        self.assertEqual(unused(game, [(1, "aa")]), ([], [(0, "aa", 1)]))
        self.assertEqual(unused(game, [(0, "ab"), (1, "bb")]), ([], list(ends)))
        self.assertEqual(unused(game, [(0, "aa"), (1, "aa")]), ([], []))
        self.assertEqual(unused(game, []), ([], list(ends)))

    def test_ends_that_sum_to_nought_are_used(self):
        game = game_of("ab", 2, ((), ()), ((0, "a", 1), (0, "aa", -1), (0, "bb", 1)))
        self.assertEqual(unused(game, [(0, "aa")]), ([], [(0, "bb", 1)]))

    def test_ends_round_a_ring(self):
        game = game_of("ab", 3, ((), ()), ((0, "aa", 1),), shape="ring")
        self.assertEqual(unused(game, [(0, "aba")]), ([], []))
        self.assertEqual(unused(("toy", "line") + game[2:], [(0, "aba")]), ([], [(0, "aa", 1)]))

    def test_no_begins(self):
        self.assertEqual(unused(FILL, []), ([(0, ".", "a"), (0, ".", "b"), (1, "a", "."), (1, "b", "a")], []))

    def test_kinds(self):
        told = unused(listed(FILL[:5] + (((0, "aa", 1), (0, "bb", 2)), (0, 0))), [[0, "ab"]])
        self.assertEqual(repr(told), repr(([(0, ".", "a"), (0, ".", "b"), (1, "a", "."), (1, "b", "a")],
                                           [(0, "aa", 1), (0, "bb", 2)])))

    def test_random_games(self):
        for number, game in enumerate(random_games(72, 200, 4, 3)):
            for many in (1, 3):
                begins = some_standings(number, game, many)
                self.assertEqual(unused(game, begins), plain_unused(game, begins), (game, begins))


class WaysBack(unittest.TestCase):
    def test_in_several_ways(self):
        self.assertEqual(ways_back(FILL, [(0, "..")], (0, "..")), [((1, ".a"), (1, "a", ".")), ((1, "a."), (0, "a", "."))])
        self.assertEqual(ways_back(FILL, [(0, "..")], (1, "bb")), [((0, ".b"), (0, ".", "b")), ((0, "b."), (1, ".", "b"))])
        self.assertEqual(ways_back(FILL, [(0, "..")], (0, "aa")), [((1, "ab"), (1, "b", "a")), ((1, "ba"), (0, "b", "a"))])

    def test_by_several_moves_of_one(self):
        game = game_of("ab", 3, ((("a", "b"), ("aa", "ba"), ("aaa", "baa")), ()))
        self.assertEqual(ways_back(game, [(0, "aaa")], (1, "baa")),
                         [((0, "aaa"), (0, "a", "b")), ((0, "aaa"), (0, "aa", "ba")), ((0, "aaa"), (0, "aaa", "baa"))])

    def test_in_none(self):
        self.assertEqual(ways_back(FILL, [(0, "ab")], (0, "ab")), [])
        self.assertEqual(ways_back(FILL, [(0, "ab")], (0, "..")), [])
        self.assertEqual(ways_back(FILL, [], (0, "..")), [])
        # Only from what isn't reached does a move lead there.
        self.assertEqual(ways_back(FILL, [(0, "b.")], (0, "..")), [])
        self.assertEqual(ways_back(FILL, [(0, "b.")], (0, "ba")), [((1, "bb"), (1, "b", "a"))])

    def test_rising_not_in_the_order_reached(self):
        begins = [(1, "ba"), (1, "ab")]
        self.assertEqual(ways_back(FILL, begins, [0, "aa"]), [((1, "ab"), (1, "b", "a")), ((1, "ba"), (0, "b", "a"))])

    def test_random_games(self):
        for number, game in enumerate(random_games(73, 60, 3, 3)):
            begins = some_standings(number, game, 2)
            found = reach_of(game, begins)
            for goal in all_standings(game):
                want = sorted((one, move) for one in found for move in moves_of(game, one)
                              if after(game, one, move) == goal)
                self.assertEqual(ways_back(game, begins, goal), want, (game, begins, goal))
                self.assertEqual(ways_back(game, begins, goal) != [], any(goal in behind(game, one) for one in found))


if __name__ == "__main__":
    unittest.main()
