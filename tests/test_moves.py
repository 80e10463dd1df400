import unittest

from solvedplay.errors import NoMove
from solvedplay.moves import done, ended, moves, places_of
from tests.oracle import (after, all_rows, all_standings, end_of, game_of, listed, moves_of, places, random_games,
                          some_standings)

LINE = game_of(".x", 3, ((("x.", ".x"),), ((".x", "x."),)), (), (3, -4))
RING = game_of(".x", 3, ((("x.", ".x"),), ((".x", "x."),)), (), (3, -4), "ring")


class Places(unittest.TestCase):
    def check(self, shape, row, text, want):
        game = game_of(".x", len(row), shape=shape)
        self.assertEqual(places_of(game, row, text), want, (shape, row, text))

    def test_on_a_line(self):
        self.check("line", "xxx", "x", [0, 1, 2])
        self.check("line", "xxx", "xx", [0, 1])
        self.check("line", "xxx", "xxx", [0])
        self.check("line", ".x.x.", ".x", [0, 2])
        self.check("line", ".x.x.", "x.", [1, 3])
        self.check("line", ".x.x.", "..", [])
        self.check("line", "x..x", "xx", [])
        self.check("line", "..x", "x.", [])
        self.check("line", "...", "x", [])
        self.check("line", ".x", ".x", [0])
        self.check("line", "x.", ".x", [])

    def test_on_a_ring(self):
        self.check("ring", "xxx", "x", [0, 1, 2])
        self.check("ring", "xxx", "xx", [0, 1, 2])
        self.check("ring", "xxx", "xxx", [0, 1, 2])
        self.check("ring", ".x.x.", ".x", [0, 2])
        self.check("ring", ".x.x.", "..", [4])
        self.check("ring", ".x.x.", "..x", [4])
        self.check("ring", ".x.x.", "x..", [3])
        self.check("ring", "x..x", "xx", [3])
        self.check("ring", "..x", "x.", [2])
        self.check("ring", "..x", "x..", [2])
        self.check("ring", "..x", ".x.", [1])
        self.check("ring", "...", "x", [])
        self.check("ring", "x.", ".x", [1])
        self.check("ring", "x.", "x.", [0])

    def test_texts_as_long_as_the_row(self):
        self.check("ring", ".xx.x", ".xx.x", [0])
        self.check("ring", ".xx.x", "x.xx.", [4])
        self.check("ring", ".xx.x", "xx.x.", [1])
        self.check("ring", ".xx.x", "xxx..", [])
        self.check("line", ".xx.x", ".xx.x", [0])
        self.check("line", ".xx.x", "x.xx.", [])
        self.check("ring", ".......", ".......", [0, 1, 2, 3, 4, 5, 6])

    def test_by_names(self):
        self.assertEqual(places_of(game=RING, row="..x", text="x."), [2])

    def test_all_rows(self):
        for shape in ("line", "ring"):
            for long in (2, 3, 4):
                game = game_of(".x", long, shape=shape)
                for row in all_rows(game):
                    for text in [text for many in range(1, long + 1) for text in all_rows(game_of(".x", many))]:
                        self.assertEqual(places_of(game, row, text), places(game, row, text), (shape, row, text))


class Ended(unittest.TestCase):
    RULES = ((("x", "."),), (("x", "."),))

    def check(self, ends, standing, want, stuck=(0, 0), rules=RULES, shape="line"):
        game = game_of(".x", 3, rules, ends, stuck, shape)
        told = ended(game, standing)
        self.assertEqual(told, want, (ends, standing))
        self.assertIsNot(told, False)
        self.assertIsNot(told, True)
        if want is not None:
            self.assertEqual(moves(game, standing), [])
        else:
            self.assertNotEqual(moves(game, standing), [])

    def test_play_goes_on(self):
        self.check((), (0, "x.."), None)
        self.check((), (1, "xxx"), None)
        self.check(((0, "xx", 5),), (0, "x.x"), None)

    def test_who(self):
        for side in (0, 1):
            self.check(((side, "xx", 5),), (side, "xx."), 5)
            self.check(((side, "xx", -5),), (side, ".xx"), -5)
            self.check(((1 - side, "xx", 5),), (side, "xx."), None)
            self.check(((2, "xx", 5),), (side, "xx."), 5)
            self.check(((2, "xx", 5),), (side, "x.."), None)

    def test_sums(self):
        ends = ((0, "x", 2), (1, "x", 4), (2, "xx", 3))
        self.check(ends, (0, "xx."), 5)
        self.check(ends, (1, "xx."), 7)
        self.check(ends, (0, "x.."), 2)
        self.check(ends, (1, "x.."), 4)
        self.check(ends, (0, "..."), 0, (0, 0))

    def test_sums_beyond_nine(self):
        ends = ((0, "x", 5), (1, "x", -5), (2, "xx", 4))
        self.check(ends, (0, "xx."), 9)
        self.check(((0, "x", 5), (2, "xx", 5)), (0, "xx."), 9)
        self.check(((0, "x", 9), (2, "xx", 9)), (0, "xx."), 9)
        self.check(((0, "x", -5), (2, "xx", -5)), (0, "xx."), -9)
        self.check(((1, "x", -9), (2, "xx", -9), (2, "xxx", -9)), (1, "xxx"), -9)
        self.check(((0, "x", -5), (2, "xx", -4)), (0, "xx."), -9)
        # The sum as a whole is brought to 9, not what is added up on the way.
        self.check(((0, "x", 9), (2, "xx", 9), (2, "xxx", -9)), (0, "xxx"), 9)
        self.check(((0, "x", 9), (2, "xx", 5), (2, "xxx", -7)), (0, "xxx"), 7)
        self.check(((0, "x", -9), (2, "xx", -5), (2, "xxx", 7)), (0, "xxx"), -7)

    def test_a_sum_of_nought(self):
        ends = ((0, "x", 4), (2, "xx", -4))
        self.check(ends, (0, "xx."), 0, (7, 7))
        self.check(ends, (0, "x.."), 4)
        self.check(ends, (1, "xx."), -4)

    def test_each_end_once(self):
        self.check(((0, "x", 2),), (0, "xxx"), 2)
        self.check(((2, "xx", 3),), (1, "xxx"), 3)
        self.check(((2, "x", -2),), (1, "x.x"), -2)

    def test_patterns_round_a_ring(self):
        self.check(((0, "xx", 5),), (0, "x.x"), 5, shape="ring")
        self.check(((0, "xx.", 5),), (0, "x.x"), 5, shape="ring")
        self.check(((0, "xx", 5),), (0, "x.x"), None, shape="line")
        self.check(((0, ".xx", 5),), (0, ".xx"), 5, shape="line")
        self.check(((0, "x.x", 5),), (0, "xx."), 5, shape="ring")
        self.check(((0, "x.x", 5),), (0, "xx."), None, shape="line")

    def test_a_side_without_a_move(self):
        self.check((), (0, "..."), 3, (3, -4))
        self.check((), (1, "..."), -4, (3, -4))
        self.check((), (0, "..."), 0, (0, -4))
        self.check((), (1, "xxx"), -4, (3, -4), ((("x", "."),), ()))
        self.check((), (0, "xxx"), None, (3, -4), ((("x", "."),), ()))
        self.check((), (0, "xxx"), 3, (3, -4), ((), ()))

    def test_ends_go_ahead_of_stuck(self):
        self.check(((0, "..", 5),), (0, "..."), 5, (3, -4))
        self.check(((1, "..", 5),), (0, "..."), 3, (3, -4))
        self.check(((0, ".", 5), (0, "..", -5)), (0, "..."), 0, (3, -4))

    def test_stuck_on_a_line_where_a_ring_goes_on(self):
        self.assertEqual(ended(LINE, (0, "..x")), 3)
        self.assertIsNone(ended(RING, (0, "..x")))
        self.assertEqual(ended(LINE, (1, "x..")), -4)
        self.assertIsNone(ended(game=RING, standing=(1, "x..")))


class Moves(unittest.TestCase):
    GAME = game_of(".ab", 3, ((("a", "."), ("a", "b"), ("ab", "ba"), ("b", ".")), (("b.", ".b"),)), ((0, "...", 1),))

    def test_of_the_side_whose_turn_it_is(self):
        self.assertEqual(moves(LINE, (0, ".x.")), [(1, "x.", ".x")])
        self.assertEqual(moves(LINE, (1, ".x.")), [(0, ".x", "x.")])

    def test_rising(self):
        self.assertEqual(moves(self.GAME, (0, "ab.")), [(0, "a", "."), (0, "a", "b"), (0, "ab", "ba"), (1, "b", ".")])
        self.assertEqual(moves(self.GAME, (0, "ba.")), [(0, "b", "."), (1, "a", "."), (1, "a", "b")])
        want = [(0, "b", "."), (1, "a", "."), (1, "a", "b"), (1, "ab", "ba"), (2, "b", ".")]
        self.assertEqual(moves(self.GAME, (0, "bab")), want)

    def test_round_a_ring(self):
        self.assertEqual(moves(RING, (0, "..x")), [(2, "x.", ".x")])
        self.assertEqual(moves(RING, (1, "x..")), [(2, ".x", "x.")])
        self.assertEqual(moves(RING, (0, "x.x")), [(0, "x.", ".x")])
        self.assertEqual(moves(LINE, (0, "..x")), [])

    def test_none_of_an_ended_standing(self):
        self.assertEqual(moves(self.GAME, (0, "...")), [])
        self.assertEqual(moves(LINE, (1, "x..")), [])
        stopped = game_of(".x", 3, LINE[4], ((0, "xx", 5), (0, "xxx", -5)))
        self.assertEqual(moves(stopped, (0, "xx.")), [])
        self.assertEqual(moves(stopped, (1, ".xx")), [(0, ".x", "x.")])

    def test_by_names(self):
        self.assertEqual(moves(game=LINE, standing=(0, ".x.")), [(1, "x.", ".x")])
        self.assertEqual(done(game=LINE, standing=(0, ".x."), move=(1, "x.", ".x")), (1, "..x"))

    def test_told_lists_are_the_askers_own(self):
        told = moves(self.GAME, (0, "bab"))
        want = list(told)
        told.clear()
        self.assertEqual(moves(self.GAME, (0, "bab")), want)
        told = places_of(RING, "xxx", "x")
        told.append(9)
        self.assertEqual(places_of(RING, "xxx", "x"), [0, 1, 2])


class Done(unittest.TestCase):
    def test_on_a_line(self):
        game = Moves.GAME
        self.assertEqual(done(game, (0, "ab."), (0, "a", ".")), (1, ".b."))
        self.assertEqual(done(game, (0, "ab."), (0, "a", "b")), (1, "bb."))
        self.assertEqual(done(game, (0, "ab."), (0, "ab", "ba")), (1, "ba."))
        self.assertEqual(done(game, (0, "ab."), (1, "b", ".")), (1, "a.."))
        self.assertEqual(done(game, (1, "ab."), (1, "b.", ".b")), (0, "a.b"))

    def test_round_a_ring(self):
        self.assertEqual(done(RING, (0, "..x"), (2, "x.", ".x")), (1, "x.."))
        self.assertEqual(done(RING, (1, "x.."), (2, ".x", "x.")), (0, "..x"))
        game = game_of("abcd", 4, ((("abc", "dcb"),), ()), shape="ring")
        self.assertEqual(done(game, (0, "abcd"), (0, "abc", "dcb")), (1, "dcbd"))
        self.assertEqual(done(game, (0, "bcda"), (3, "abc", "dcb")), (1, "cbdd"))
        self.assertEqual(done(game, (0, "cdab"), (2, "abc", "dcb")), (1, "bddc"))

    def test_as_long_as_the_row(self):
        game = game_of("ab", 3, ((("aab", "bba"),), ()), shape="ring")
        self.assertEqual(done(game, (0, "aba"), (2, "aab", "bba")), (1, "bab"))
        game = game_of("ab", 2, ((("ab", "bb"),), ()), shape="ring")
        self.assertEqual(done(game, (0, "ba"), (1, "ab", "bb")), (1, "bb"))


class NoMoves(unittest.TestCase):
    GAME = game_of("abc", 3, ((("a", "b"), ("aa", "cc")), (("b", "c"),)), ((2, "ccc", 1),), (0, 0))
    NONE = [(), (0,), (0, "a"), ("a", "b"), (0, "a", "b", 0), (0, "a", "b", None), (0, "a", "b", "c"),
            (2, "a", "b"), (3, "a", "b"), (-1, "a", "b"), (-3, "a", "b"), (99, "a", "b"),
            (True, "a", "b"), (False, "a", "b"), (False, "aa", "cc"), (None, "a", "b"), ("0", "a", "b"), ("", "a", "b"),
            ((0,), "a", "b"), ((), "a", "b"), (0, "b", "a"), (0, "a", "c"), (0, "a", "a"), (0, "aa", "bb"), (1, "aa", "cc"),
            (0, "", ""), (0, "A", "b"), (0, "ab", "bb"), (0, "a", "bb"), (2, "b", "c"), (0, "a", ""), (0, "", "b"),
            (0, None, "b"), (0, "a", None), (0, True, "b"), (0, "a", False), (0, 0, 0), (0, ("a",), "b"), (0, "a", ("b",)),
            ("a", "b", 0), ("a", 0, "b"), (0, ("a", "b")), ((0, "a", "b"),), (((0, "a", "b"), 0), "a", "b"), (None, None, None),
            (None,), ("",), ("0ab",)]

    def refused(self, game, standing, move):
        with self.assertRaises(NoMove, msg=repr(move)) as caught:
            done(game, standing, move)
        return caught.exception.what

    def test_every_tuple_that_is_none(self):
        self.assertEqual(moves(self.GAME, (0, "aab")), [(0, "a", "b"), (0, "aa", "cc"), (1, "a", "b")])
        for move in self.NONE:
            # By what is shown, for True equals 1.
            self.assertEqual(repr(self.refused(self.GAME, (0, "aab"), move)), repr(move))

    def test_a_list_for_the_tuple(self):
        for move in [(2, "a", "b"), (True, "a", "b"), (0, "a"), (), (0, "b", "a"), (None, "a", "b")]:
            self.assertEqual(repr(self.refused(self.GAME, (0, "aab"), list(move))), repr(move))
        self.assertEqual(done(self.GAME, [0, "aab"], [1, "a", "b"]), (1, "abb"))

    def test_truths_are_no_places_on_a_ring(self):
        for place in (True, False):
            self.assertEqual(repr(self.refused(RING, (0, "x.x" if not place else ".x."), (place, "x.", ".x"))),
                             repr((place, "x.", ".x")))

    def test_of_an_ended_standing(self):
        self.assertEqual(self.refused(self.GAME, (1, "ccc"), (0, "c", "b")), (0, "c", "b"))
        stopped = game_of(".x", 3, LINE[4], ((0, "xx", 5), (0, "xxx", -5)))
        self.assertEqual(self.refused(stopped, (0, "xx."), (1, "x.", ".x")), (1, "x.", ".x"))
        nought = game_of(".x", 3, LINE[4], ((0, "x", 5), (0, "xx", -5)))
        self.assertEqual(self.refused(nought, (0, "xx."), (1, "x.", ".x")), (1, "x.", ".x"))

    def test_of_the_other_side(self):
        self.assertEqual(self.refused(LINE, (0, ".x."), (0, ".x", "x.")), (0, ".x", "x."))
        self.assertEqual(self.refused(LINE, (1, ".x."), (1, "x.", ".x")), (1, "x.", ".x"))

    def test_beyond_the_end_of_a_line(self):
        self.assertEqual(self.refused(LINE, (0, "..x"), (2, "x.", ".x")), (2, "x.", ".x"))
        self.assertEqual(self.refused(LINE, (0, "x.x"), (2, "x.", ".x")), (2, "x.", ".x"))
        self.assertEqual(self.refused(RING, (0, "x.."), (3, "x.", ".x")), (3, "x.", ".x"))


class AllStandings(unittest.TestCase):
    def test_against_plain_ways(self):
        for number, game in enumerate(random_games(61, 120, 5, 4)):
            asked = some_standings(number, game, min(60, len(all_standings(game))))
            for standing in asked:
                self.assertEqual(ended(game, standing), end_of(game, standing), (game, standing))
                self.assertEqual(moves(game, standing), moves_of(game, standing), (game, standing))
                for move in moves_of(game, standing):
                    self.assertEqual(done(game, standing, move), after(game, standing, move), (game, standing, move))

    def test_lists_for_tuples(self):
        for number, game in enumerate(random_games(62, 40, 5, 3)):
            for standing in some_standings(number, game, 5):
                self.assertEqual(ended(listed(game), listed(standing)), end_of(game, standing))
                self.assertEqual(moves(listed(game), listed(standing)), moves_of(game, standing))
                for move in moves_of(game, standing):
                    self.assertEqual(done(listed(game), listed(standing), listed(move)), after(game, standing, move))


if __name__ == "__main__":
    unittest.main()
