import signal
import unittest

from solvedplay.ahead import Ahead, known_by, within
from solvedplay.solving import solved
from tests.oracle import (all_forced, all_standings, end_of, game_of, listed, look, open_all, plain_look, random_games,
                          reach_of, some_standings)
from tests.samples import FOUR_HUNDRED

TOGGLES = (("a", "b"), ("b", "a"))
# Side 0 moves x to the right, side 1 can only turn the first bead over.
WALK = game_of(".xab", 4, ((("x.", ".x"),), TOGGLES), ((2, "..x", 5),))
# Side 0 may take x away, too.
CHOICE = game_of(".xab", 4, ((("x.", ".."), ("x.", ".x")), TOGGLES), ((2, "...", 2), (2, "..x", 5)))
LOSS = game_of(".xab", 4, ((("x.", ".."), ("x.", ".x")), TOGGLES), ((2, "...", -2), (2, "..x", -5)))


class Slow(Exception):
    pass


def limited(seconds, asked):
    """What is told, unless it takes so long that standings must have been looked at over and over."""
    def stop(number, frame):
        raise Slow(f"not told in {seconds} seconds")
    ahead = signal.signal(signal.SIGALRM, stop)
    signal.alarm(seconds)
    try:
        return asked()
    finally:
        signal.alarm(0)
        signal.signal(signal.SIGALRM, ahead)


class Within(unittest.TestCase):
    def check(self, game, standing, wants):
        """From 0 moves on."""
        for deep, want in enumerate(wants):
            self.assertEqual(within(game, standing, deep), want, (standing, deep))
            self.assertEqual(Ahead(game).ask(standing, deep), want, (standing, deep))
            self.assertEqual(plain_look(game, standing, deep), want, (standing, deep))

    def test_from_nought_on(self):
        self.check(WALK, (0, "ax.."), [(-9, 9), (-9, 9), (-9, 9), (5, 5), (5, 5), (5, 5)])
        self.check(WALK, (1, "ax.."), [(-9, 9), (-9, 9), (-9, 9), (-9, 9), (5, 5), (5, 5)])
        self.check(WALK, (0, "b.x."), [(-9, 9), (5, 5), (5, 5)])
        self.check(CHOICE, (0, "ax.."), [(-9, 9), (2, 9), (2, 9), (5, 5), (5, 5)])
        self.check(CHOICE, (1, "ax.."), [(-9, 9), (-9, 9), (2, 9), (2, 9), (5, 5)])
        self.check(LOSS, (0, "ax.."), [(-9, 9), (-2, 9), (-2, 9), (-2, -2), (-2, -2)])
        self.check(LOSS, (0, "b.x."), [(-9, 9), (-2, -2)])

    def test_for_the_other_side(self):
        game = game_of(".xab", 4, (TOGGLES, (("x.", ".."), ("x.", ".x"))), ((2, "...", -2), (2, "..x", -5)))
        self.check(game, (1, "ax.."), [(-9, 9), (-9, -2), (-9, -2), (-5, -5), (-5, -5)])
        self.check(game, (0, "ax.."), [(-9, 9), (-9, 9), (-9, -2), (-9, -2), (-5, -5)])

    def test_ended_ones(self):
        game = game_of(".x", 3, ((("x", "."),), (("x", "."),)), ((0, "xx", 5), (0, "xxx", -5), (2, ".xx", -9)), (-2, 9))
        for standing, worth in (((0, "xx."), 5), ((0, "xxx"), 0), ((1, ".xx"), -9), ((0, "..."), -2), ((1, "..."), 9)):
            self.check(game, standing, [(worth, worth)] * 4)
            self.assertEqual(within(game, standing, 40), (worth, worth))
            self.assertEqual(known_by(game, standing, 0), 0)
            self.assertEqual(known_by(game, standing, 40), 0)

    def test_round_for_ever(self):
        game = game_of("ab", 2, (TOGGLES, TOGGLES))
        for deep in (0, 1, 2, 7, 40):
            self.assertEqual(within(game, (0, "ab"), deep), (-9, 9))
            self.assertIsNone(known_by(game, (0, "ab"), deep))

    def test_low_below_nought_and_high_above(self):
        # Side 0 can end at -2 at once, side 1 could at 3; the other ways go round.
        rules = (("a", "b"), ("aa", "cc"), ("b", "a"))
        game = game_of("abc", 2, (rules, rules), ((0, "cc", 3), (1, "cc", -2)))
        self.check(game, (0, "aa"), [(-9, 9), (-2, 9), (-2, 9)])
        self.check(game, (1, "aa"), [(-9, 9), (-9, 3), (-9, 3)])
        for deep in (3, 4, 5, 20):
            for standing in all_standings(game):
                want = look(all_forced(game, reach_of(game, [standing])), standing, deep)
                self.assertEqual(within(game, standing, deep), want)

    def test_an_end_of_nine_or_of_minus_nine(self):
        game = game_of(".x", 2, ((("x", "."),), (("x", "."),)), (), (-9, 9))
        self.check(game, (0, "x."), [(-9, 9), (9, 9)])
        self.check(game, (1, "x."), [(-9, 9), (-9, -9)])
        self.check(game, (0, "xx"), [(-9, 9), (-9, 9), (-9, -9)])

    def test_random_games(self):
        for number, game in enumerate(random_games(101, 150, 3, 3)):
            for standing in some_standings(number, game, 3):
                for deep in range(5):
                    self.assertEqual(within(game, standing, deep), plain_look(game, standing, deep), (game, standing, deep))

    def test_random_games_deep(self):
        for number, game in enumerate(random_games(102, 60, 4, 3)):
            standing = some_standings(number, game, 1)[0]
            sets = all_forced(game, reach_of(game, [standing]))
            for deep in (0, 1, 2, 3, 6, 9, 15, 40):
                self.assertEqual(within(game, standing, deep), look(sets, standing, deep), (game, standing, deep))

    def test_with_what_is_reckoned_back(self):
        for game, begin in FOUR_HUNDRED[:2]:
            ahead = Ahead(game)
            for standing, worth, far in solved(game, [begin])[::9]:
                for deep in range(0, 16, 3):
                    low, high = ahead.ask(standing, deep)
                    self.assertTrue(low <= worth <= high)
                    if worth > 0:
                        self.assertEqual(low == worth, deep >= far, (standing, deep))
                    if worth < 0:
                        self.assertEqual(high == worth, deep >= far, (standing, deep))

    def test_by_names(self):
        self.assertEqual(within(game=CHOICE, standing=(0, "ax.."), deep=1), (2, 9))
        self.assertEqual(known_by(game=CHOICE, standing=(0, "ax.."), deep=3), 3)
        self.assertEqual(Ahead(game=CHOICE).ask(standing=(0, "ax.."), deep=1), (2, 9))
        self.assertEqual(within(listed(CHOICE), [0, "ax.."], 1), (2, 9))
        self.assertEqual(known_by(listed(CHOICE), [0, "ax.."], 3), 3)
        self.assertIs(type(within(CHOICE, (0, "ax.."), 1)), tuple)


class KnownBy(unittest.TestCase):
    def test_at_the_very_number_one_less_and_more(self):
        for game, standing, many in ((WALK, (0, "ax.."), 3), (WALK, (1, "ax.."), 4), (WALK, (0, "b.x."), 1),
                                     (CHOICE, (0, "ax.."), 3), (CHOICE, (1, "ax.."), 4), (LOSS, (0, "ax.."), 3)):
            self.assertEqual(known_by(game, standing, many), many)
            self.assertEqual(known_by(game, standing, many + 1), many)
            self.assertEqual(known_by(game, standing, 40), many)
            for less in range(many):
                self.assertIsNone(known_by(game, standing, less))

    def test_at_nought(self):
        self.assertIsNone(known_by(WALK, (0, "ax.."), 0))
        self.assertEqual(known_by(WALK, (0, "a..x"), 0), 0)
        self.assertEqual(known_by(game_of(), (0, "..."), 0), 0)

    def test_a_worth_of_nought_that_is_known(self):
        game = game_of(".x", 3, ((("x", "."),), (("x", "."),)), (), (0, 0))
        self.assertEqual(known_by(game, (0, "xxx"), 40), 3)
        self.assertIsNone(known_by(game, (0, "xxx"), 2))

    def test_random_games(self):
        for number, game in enumerate(random_games(103, 80, 4, 3)):
            for standing in some_standings(number, game, 2):
                sets = all_forced(game, reach_of(game, [standing]))
                pairs = [look(sets, standing, deep) for deep in range(13)]
                hits = [deep for deep, (low, high) in enumerate(pairs) if low == high]
                self.assertEqual(known_by(game, standing, 12), hits[0] if hits else None, (game, standing))


class Opened(unittest.TestCase):
    def check(self, ahead, many):
        self.assertEqual(ahead.opened(), many)
        self.assertEqual(len(ahead), many)

    def test_what_is_opened(self):
        ahead = Ahead(WALK)
        self.check(ahead, 0)
        ahead.ask((0, "ax.."), 0)
        self.check(ahead, 0)
        ahead.ask((0, "ax.."), 1)
        self.check(ahead, 1)
        # With three left, with two behind it, with one behind that.
        ahead.ask((0, "ax.."), 3)
        self.check(ahead, 4)
        # (1, "a.x.") with one left is new, the standing itself with two too.
        ahead.ask((0, "ax.."), 2)
        self.check(ahead, 6)
        ahead.ask((1, "a.x."), 2)
        self.check(ahead, 6)
        # Behind the fourth from the end it's ended.
        ahead.ask((0, "ax.."), 4)
        self.check(ahead, 9)

    def test_asked_again(self):
        ahead = Ahead(CHOICE)
        told = ahead.ask((1, "ax.."), 6)
        many = ahead.opened()
        for again in range(3):
            self.assertEqual(ahead.ask((1, "ax.."), 6), told)
            self.check(ahead, many)

    def test_ended_ones_are_not_opened(self):
        ahead = Ahead(WALK)
        for deep in (0, 1, 5, 40):
            ahead.ask((0, "a..x"), deep)
            self.check(ahead, 0)
        nought = Ahead(game_of(".x", 3))
        nought.ask((0, "..."), 3)
        self.check(nought, 0)

    def test_each_standing_with_so_many_left_once(self):
        game = game_of("ab", 2, (TOGGLES, TOGGLES))
        ahead = Ahead(game)
        ahead.ask((0, "aa"), 3)
        # One with 3, two with 2, two with 1.
        self.check(ahead, 5)
        ahead.ask((0, "bb"), 3)
        self.check(ahead, 6)
        ahead.ask((0, "aa"), 1)
        # (0, "aa") was opened with 1 left on the way.
        self.check(ahead, 6)
        ahead.ask((1, "aa"), 1)
        self.check(ahead, 7)

    def test_asking_others_tells_the_same(self):
        for number, game in enumerate(random_games(104, 60, 3, 3)):
            ahead, opened = Ahead(game), set()
            for place, standing in enumerate(some_standings(number, game, 6)):
                for deep in ((3, 5, 4), (5, 1, 2), (0, 4, 4))[place % 3]:
                    self.assertEqual(ahead.ask(standing, deep), plain_look(game, standing, deep), (game, standing, deep))
                    open_all(game, opened, standing, deep)
                    self.check(ahead, len(opened))

    def test_asking_how_many_changes_nothing(self):
        ahead = Ahead(CHOICE)
        ahead.ask((0, "ax.."), 3)
        told = [ahead.opened(), len(ahead), ahead.opened(), ahead.like().opened(), len(ahead.like()), ahead.opened()]
        self.assertEqual(len(set(told)), 1)

    def test_within_opens_nothing_elsewhere(self):
        ahead = Ahead(CHOICE)
        within(CHOICE, (0, "ax.."), 3)
        known_by(CHOICE, (0, "ax.."), 3)
        Ahead(CHOICE).ask((0, "ax.."), 3)
        self.check(ahead, 0)

    def test_four_hundred_forty_deep(self):
        for game, begin in FOUR_HUNDRED:
            ahead, opened = Ahead(game), set()
            told = limited(120, lambda: ahead.ask(begin, 40))
            open_all(game, opened, begin, 40)
            self.check(ahead, len(opened))
            sets = all_forced(game, reach_of(game, [begin]))
            self.assertEqual(told, look(sets, begin, 40))
            self.assertEqual(limited(120, lambda: within(game, begin, 40)), told)
            pairs = [look(sets, begin, deep) for deep in range(41)]
            hits = [deep for deep, (low, high) in enumerate(pairs) if low == high]
            self.assertEqual(limited(120, lambda: known_by(game, begin, 40)), hits[0] if hits else None)


class Like(unittest.TestCase):
    def test_like(self):
        ahead = Ahead(CHOICE)
        ahead.ask((0, "ax.."), 3)
        other = ahead.like()
        self.assertIsInstance(other, Ahead)
        self.assertIsNot(other, ahead)
        self.assertEqual((other.opened(), len(other)), (ahead.opened(), len(ahead)))
        many = ahead.opened()
        self.assertEqual(other.ask((0, "ax.."), 3), (5, 5))
        self.assertEqual(other.opened(), many)

    def test_either_goes_its_own_way(self):
        one = Ahead(CHOICE)
        one.ask((0, "ax.."), 1)
        other = one.like()
        self.assertEqual(other.ask((0, "ax.."), 3), (5, 5))
        self.assertEqual((one.opened(), len(one)), (1, 1))
        grown = other.opened()
        self.assertGreater(grown, 1)
        one.ask((1, "bx.."), 2)
        self.assertEqual(other.opened(), grown)
        # The same done to either, the same is told.
        third = one.like()
        for asked in (((0, "ax.."), 5), ((1, "b.x."), 4), ((0, "b.x."), 3)):
            self.assertEqual(one.ask(*asked), third.ask(*asked))
            self.assertEqual(one.opened(), third.opened())

    def test_like_a_new_one(self):
        one = Ahead(CHOICE)
        other = one.like()
        one.ask((0, "ax.."), 3)
        self.assertEqual(other.opened(), 0)
        self.assertEqual(other.ask((0, "ax.."), 3), (5, 5))
        self.assertEqual(other.opened(), one.opened())


class Kept(unittest.TestCase):
    def test_the_game_changed_behind(self):
        game = listed(CHOICE)
        ahead = Ahead(game)
        ahead.ask([0, "ax.."], 1)
        game[4][0].clear()
        game[4][1][0][1] = "x"
        game[5][0][2] = -9
        game[6][0] = 9
        game[1] = "ring"
        self.assertEqual(ahead.ask([0, "ax.."], 3), (5, 5))
        self.assertEqual(ahead.ask((1, "ax.."), 2), (2, 9))
        self.assertEqual(ahead.like().ask((0, "bx.."), 3), (5, 5))
        game.clear()
        self.assertEqual(ahead.ask((1, "b.x."), 4), (5, 5))

    def test_a_list_in_a_tuple_changed_behind(self):
        rules = [[["x.", ".."], ["x.", ".x"]], [["a", "b"], ["b", "a"]]]
        ends = [[2, "...", 2], [2, "..x", 5]]
        ahead = Ahead(CHOICE[:4] + (rules, ends, CHOICE[6]))
        rules[0][0][0] = "a"
        rules[1].pop()
        ends[1][2] = -5
        self.assertEqual(ahead.ask((0, "ax.."), 3), (5, 5))
        self.assertEqual(ahead.ask((0, "bx.."), 1), (2, 9))

    def test_the_standing_changed_behind(self):
        ahead = Ahead(CHOICE)
        standing = [0, "ax.."]
        self.assertEqual(ahead.ask(standing, 1), (2, 9))
        standing[0] = 1
        self.assertEqual(ahead.opened(), 1)
        self.assertEqual(ahead.ask((0, "ax.."), 1), (2, 9))
        self.assertEqual(ahead.opened(), 1)
        self.assertEqual(standing, [1, "ax.."])

    def test_methods_stand_in_the_class(self):
        for name in ("ask", "opened", "like", "__len__", "__init__"):
            self.assertIn(name, vars(Ahead))

    def test_ends_are_told_of_ended_ones(self):
        for game in random_games(105, 40, 3, 2):
            for standing in all_standings(game):
                if end_of(game, standing) is not None:
                    self.assertEqual(within(game, standing, 2), (end_of(game, standing),) * 2)


if __name__ == "__main__":
    unittest.main()
