import random
import unittest

from solvedplay.errors import TooMany
from solvedplay.leading import kept, led_over, touched
from solvedplay.moves import done, ended, moves
from solvedplay.solving import solved
from tests.asking import FORKED, RINGED, START, STUCK, TAKING, WALK, asked_games, refused, small_games
from tests.oracle import all_standings, game_of, listed, reach_of, solve, some_standings
from tests.plain_variants import kept_by, other_of, plain_varied, random_change, touched_by
from tests.samples import FOUR_HUNDRED, ONE_MORE


def drawn_pairs(seed, games):
    """Pairs of games: variants by one change, others by many, and the game itself."""
    dice = random.Random(seed)
    for game in games:
        yield game, game
        yield game, other_of(dice, game)
        for number in range(8):
            other = plain_varied(game, random_change(dice, game))
            if other is not None:
                yield game, other


class Touched(unittest.TestCase):
    def test_itself(self):
        for game in asked_games(401, 10):
            standings = some_standings(402, game, 2)
            self.assertEqual(touched(game, game, standings, most=1000), [])
            self.assertEqual(kept(game, game, standings, most=1000), sorted(reach_of(game, standings)))

    def test_each_sort_of_change(self):
        self.assertEqual(touched(RINGED, RINGED[:1] + ("line",) + RINGED[2:], [(0, "x..")]), [(0, "..x"), (1, "..x")])
        # A rule more: other moves. An end more: ended. Stuck: of those that have no move alone.
        self.assertEqual(touched(WALK, FORKED[:5] + WALK[5:], [START]), [(0, "ax.."), (0, "b.x.")])
        self.assertEqual(touched(WALK, WALK[:5] + (((2, "..x", 4),), (0, 0)), [START]), [(1, "b..x")])
        self.assertEqual(touched(WALK, WALK[:5] + (((1, ".x.", 4), (2, "..x", 5)), (0, 0)), [START]), [(1, "a.x.")])
        self.assertEqual(touched(WALK, WALK[:5] + (((0, ".x.", 4), (2, "..x", 5)), (0, 0)), [START]), [(0, "b.x.")])
        self.assertEqual(touched(WALK, WALK[:6] + ((9, 9),), [START]), [])
        self.assertEqual(touched(TAKING, TAKING[:6] + ((9, 4),), [(0, "xx..")]), [(0, "....")])
        self.assertEqual(touched(TAKING, TAKING[:6] + ((-3, 5),), [(0, "xx..")]), [])
        none = WALK[:4] + ((WALK[4][0], ()),) + WALK[5:]
        self.assertEqual(touched(WALK, none, [START]), [(1, "a.x.")])

    def test_an_end_that_is_there_in_both_ways(self):
        # Ended alike by stuck and by an end of the same worth: that's no other ended, and no other moves.
        game = game_of(".x", 2, stuck=(4, 4))
        self.assertEqual(touched(game, game[:5] + (((2, ".", 4),), (4, 4)), [(0, "..")]), [])
        self.assertEqual(touched(game, game[:5] + (((2, ".", 3),), (4, 4)), [(0, ".."), (0, "xx")]), [(0, "..")])

    def test_several_begins(self):
        other = WALK[:5] + (((2, "..x", 4),), (0, 0))
        begins = [(1, "b..x"), START, (0, "x..."), START]
        self.assertEqual(touched(WALK, other, begins), sorted(touched_by(WALK, other, begins)))
        self.assertEqual(touched(WALK, other, []), [])
        self.assertEqual(kept(WALK, other, []), [])

    def test_drawn(self):
        many = {}
        for game, other in drawn_pairs(403, small_games(404, 60)):
            for begins in (some_standings(405, game, 1), some_standings(406, game, 3)):
                want = (sorted(touched_by(game, other, begins)), sorted(kept_by(game, other, begins)))
                self.assertEqual((touched(game, other, begins), kept(game, other, begins)), want)
                seen = (want[0] != [], want[1] != [])
                many[seen] = many.get(seen, 0) + 1
        self.assertTrue(min(many[seen] for seen in ((True, True), (False, True), (True, False))) > 20, many)

    def test_by_game_alone(self):
        # What only the other one reaches isn't asked of.
        none = WALK[:4] + ((WALK[4][0], ()),) + WALK[5:]
        self.assertEqual(touched(none, WALK, [START]), [(1, "a.x.")])
        self.assertEqual(kept(none, WALK, [START]), [])


class Kept(unittest.TestCase):
    def test_some(self):
        other = WALK[:5] + (((0, ".x.", 4), (2, "..x", 5)), (0, 0))
        self.assertEqual(kept(WALK, other, [START]), [(1, "b..x")])
        other = WALK[:5] + (((2, "..x", 4),), (0, 0))
        self.assertEqual(kept(WALK, other, [START, (0, "....")]), [(0, "....")])

    def test_round(self):
        # Round and round, and from there to what is touched: none of these is kept.
        game = game_of("abc", 2, ((("a", "b"), ("b", "a"), ("bb", "cc")), (("a", "b"), ("b", "a"))), ((2, "cc", 4),))
        other = game[:5] + (((2, "cc", 5),), (0, 0))
        self.assertEqual(kept(game, other, [(0, "aa")]), [])
        self.assertEqual(kept(game, other, [(0, "aa"), (0, "ca")]), sorted(reach_of(game, [(0, "ca")])))

    def test_shut_under_moves_and_of_the_same_worth(self):
        many = 0
        for game, other in drawn_pairs(407, small_games(408, 50)):
            begins = some_standings(409, game, 3)
            told = kept(game, other, begins)
            own, others = solve(game, begins), solve(other, told)
            for one in told:
                self.assertEqual((ended(game, one), moves(game, one)), (ended(other, one), moves(other, one)))
                for move in moves(game, one):
                    self.assertIn(done(game, one, move), told)
                self.assertEqual(own[one], others[one])
                many += game != other
        self.assertTrue(many > 300, many)


class LedOver(unittest.TestCase):
    def check(self, game, other, begins):
        rows = solved(game, begins)
        found = [row[0] for row in rows]
        want = solve(other, found)
        staying = kept_by(game, other, found)
        told = led_over(game, other, rows)
        self.assertEqual(told, ([(one, *want[one]) for one in sorted(want)], len([one for one in want if one not in staying])))
        self.assertEqual(told[0], solved(other, found))
        return told

    def test_itself(self):
        for game in (WALK, TAKING, STUCK):
            for begins in (some_standings(410, game, 1), some_standings(411, game, 3)):
                self.assertEqual(led_over(game, game, solved(game, begins)), (solved(game, begins), 0))

    def test_no_rows(self):
        self.assertEqual(led_over(WALK, FORKED, []), ([], 0))
        self.assertEqual(led_over(WALK, FORKED, [], most=1), ([], 0))

    def test_some(self):
        told = led_over(WALK, FORKED, solved(WALK, [START]))
        # The one to which STOP leads is new, and isn't kept.
        self.assertEqual(told, (solved(FORKED, [START]), 5))
        self.assertEqual(len(told[0]), 6)
        other = WALK[:5] + (((0, ".x.", 4), (2, "..x", 5)), (0, 0))
        self.assertEqual(led_over(WALK, other, solved(WALK, [START]))[1], 3)

    def test_drawn(self):
        manys = set()
        for game, other in drawn_pairs(412, small_games(413, 60)):
            rows, many = self.check(game, other, some_standings(414, game, 2))
            manys.add((many == 0, many == len(rows)))
        self.assertEqual(manys, {(True, False), (False, True), (False, False)})

    def test_what_is_handed_in_stays(self):
        rows = listed(solved(WALK, [START]))
        ahead = repr(rows)
        told = led_over(WALK, FORKED, rows)
        told[0].clear()
        self.assertEqual(repr(rows), ahead)


class Refused(unittest.TestCase):
    def test_too_many(self):
        for function in (touched, kept):
            refused(self, TooMany, 3, lambda: function(WALK, FORKED, [START], most=3))
            function(WALK, FORKED, [START], most=4)

    def test_of_game_first_then_of_other(self):
        rows = solved(WALK, [START])
        refused(self, TooMany, 3, lambda: led_over(WALK, FORKED, rows, most=3))
        refused(self, TooMany, 4, lambda: led_over(WALK, FORKED, rows, most=4))
        refused(self, TooMany, 5, lambda: led_over(WALK, FORKED, rows, most=5))
        self.assertEqual(led_over(WALK, FORKED, rows, most=6), led_over(WALK, FORKED, rows))
        rows = solved(FORKED, [START])
        refused(self, TooMany, 5, lambda: led_over(FORKED, WALK, rows, most=5))
        self.assertEqual(led_over(FORKED, WALK, rows, most=8), led_over(FORKED, WALK, rows))

    def test_how_many_the_other_one_reaches_is_no_matter_to_touched_and_kept(self):
        none = WALK[:4] + ((WALK[4][0], ()),) + WALK[5:]
        self.assertEqual(len(reach_of(none, [START])), 2)
        for function in (touched, kept):
            function(none, WALK, [START], most=2)
        refused(self, TooMany, 2, lambda: led_over(none, WALK, [(START, 0, None)], most=2))

    def test_four_hundred_and_one_more(self):
        for game, begin in FOUR_HUNDRED:
            self.assertEqual(touched(game, game, [begin]), [])
            self.assertEqual(len(kept(game, game, [begin])), 400)
            self.assertEqual(led_over(game, game, solved(game, [begin])), (solved(game, [begin]), 0))
        for game, begin in ONE_MORE:
            for function in (touched, kept):
                refused(self, TooMany, 400, lambda: function(game, game, [begin]))
                self.assertEqual(len(function(game, game, [begin], most=401)), 401 if function == kept else 0)
            rows = solved(game, [begin], most=401)
            refused(self, TooMany, 400, lambda: led_over(game, game, rows))
            self.assertEqual(led_over(game, game, rows, most=401), (rows, 0))

    def test_as_many_and_one_fewer(self):
        dice = random.Random(415)
        for game in small_games(416, 25):
            other = other_of(dice, game)
            begins = some_standings(417, game, 2)
            many = len(reach_of(game, begins))
            for function in (touched, kept):
                self.assertEqual(function(game, other, begins, most=many), function(game, other, begins))
                if many > 1:
                    refused(self, TooMany, many - 1, lambda: function(game, other, begins, most=many - 1))

    def test_kinds_and_names(self):
        for function in (touched, kept):
            want = repr(function(WALK, FORKED, [START]))
            self.assertEqual(repr(function(listed(WALK), listed(FORKED), [list(START)])), want)
            self.assertEqual(repr(function(WALK, FORKED, (START,))), want)
            self.assertEqual(repr(function(game=WALK, other=FORKED, standings=[START], most=400)), want)
            with self.assertRaises(TypeError):
                function(WALK, FORKED, [START], 400)
        rows = solved(WALK, [START])
        want = repr(led_over(WALK, FORKED, rows))
        self.assertEqual(repr(led_over(listed(WALK), listed(FORKED), listed(rows))), want)
        self.assertEqual(repr(led_over(WALK, FORKED, tuple(rows))), want)
        self.assertEqual(repr(led_over(game=WALK, other=FORKED, rows=rows, most=400)), want)
        with self.assertRaises(TypeError):
            led_over(WALK, FORKED, rows, 400)


class Lists(unittest.TestCase):
    def test_told_lists_are_the_askers_own(self):
        begins = all_standings(STUCK)
        other = STUCK[:6] + ((1, 0),)
        for function in (touched, kept):
            told, again = function(STUCK, other, begins), function(STUCK, other, begins)
            told.clear()
            self.assertEqual(function(STUCK, other, begins), again)
            self.assertEqual(len(again), 4)


if __name__ == "__main__":
    unittest.main()
