import unittest

from solvedplay.errors import TooMany
from solvedplay.rounds import back_in, round_word
from solvedplay.solving import worth_of
from tests.oracle import all_standings, back_of, game_of, listed, random_games, reach_of, some_standings, word_of
from tests.samples import FOUR_HUNDRED, ONE_MORE

TOGGLES = (("a", "b"), ("b", "a"))


class Words(unittest.TestCase):
    def check(self, game, standing, word, back):
        self.assertEqual(round_word(game, standing), word, (game, standing))
        self.assertEqual(back_in(game, standing), back, (game, standing))
        self.assertEqual((word_of(game, standing), back_of(game, standing)), (word, back))

    def test_must(self):
        game = game_of("ab", 2, (TOGGLES, TOGGLES))
        for standing in all_standings(game):
            self.check(game, standing, "must", 2)

    def test_never(self):
        game = game_of(".x", 3, ((("x", "."),), (("x", "."),)), (), (0, 0))
        self.check(game, (0, "xxx"), "never", None)
        self.check(game, (1, "..x"), "never", None)

    def test_may(self):
        # Side 0 turns over or ends at 0, as it likes.
        game = game_of("abc", 2, ((("a", "b"), ("aa", "cc"), ("b", "a")), TOGGLES), (), (0, 0))
        self.check(game, (0, "aa"), "may", 2)
        self.check(game, (1, "ab"), "may", 2)
        self.check(game, (1, "cc"), "", None)
        # Two are turned over each round, so that side 0 never finds both to be a.
        self.check(game, (1, "bb"), "must", 2)

    def test_the_empty_text(self):
        game = game_of(".x", 3, ((("x", "."),), (("x", "."),)), ((0, "xx", 5), (0, "xxx", -5), (2, ".xx", -9)), (-2, 0))
        self.check(game, (0, "xxx"), "", None)
        self.check(game, (0, "xx."), "", None)
        self.check(game, (1, ".xx"), "", None)
        self.check(game, (1, "..."), "", None)
        self.check(game, (1, "x.."), "", None)
        self.assertEqual(worth_of(game, (1, "x.."))[0], -2)

    def test_ended_at_nought_is_no_round(self):
        game = game_of("ab", 2, (TOGGLES, TOGGLES), ((2, "a", 4), (2, "aa", -4)))
        self.check(game, (0, "aa"), "", None)

    def test_ways_of_another_worth_are_no_even_ways(self):
        # An end at a loss for side 0 that it can go to, but doesn't: on even ways no end is come to.
        game = game_of("abc", 2, ((("a", "b"), ("aa", "cc"), ("b", "a")), TOGGLES), ((2, "cc", -7),))
        self.check(game, (0, "aa"), "must", 2)
        # The same end at 0.
        game = game_of("abc", 2, ((("a", "b"), ("aa", "cc"), ("b", "a")), TOGGLES), ((2, "c", 7), (2, "cc", -7)))
        self.check(game, (0, "aa"), "may", 2)

    def test_a_round_that_only_a_mistake_leads_into(self):
        # Side 0 ends at 0, or makes a d: side 1 could turn that back, but gains by it.
        game = game_of("acd", 2, ((("a", "d"), ("aa", "cc")), (("d", "a"), ("da", "dd"))), ((0, "dd", -5),), shape="ring")
        self.check(game, (0, "aa"), "never", None)
        self.assertEqual(worth_of(game, (1, "da")), (-5, 1))
        # Without that gain it's a round.
        self.check(game[:5] + ((), (0, 0)), (0, "aa"), "may", 2)

    def test_back_in_several_moves(self):
        step = (("x.", ".x"),)
        for long, back in ((2, 2), (3, 6), (4, 4), (5, 10), (6, 6), (7, 14)):
            game = game_of(".x", long, (step, step), shape="ring")
            self.check(game, (0, "x" + "." * (long - 1)), "must", back)
            self.check(game, (1, "." * (long - 1) + "x"), "must", back)

    def test_a_round_that_does_not_come_back(self):
        # c is gone for ever, then it goes round.
        game = game_of("abc", 2, ((("a", "b"), ("b", "a"), ("cc", "aa")), TOGGLES))
        self.check(game, (0, "cc"), "must", None)
        self.check(game, (1, "aa"), "must", 2)
        game = game_of("abcd", 2, ((("a", "b"), ("aa", "cc"), ("b", "a"), ("dd", "ba")), TOGGLES))
        self.check(game, (0, "dd"), "may", None)
        self.check(game, (1, "ba"), "may", 2)

    def test_random_games(self):
        seen = {}
        for number, game in enumerate(random_games(91, 400, 4, 3)):
            for standing in some_standings(number, game, 4):
                word, back = word_of(game, standing), back_of(game, standing)
                self.check(game, standing, word, back)
                seen[(word, back)] = seen.get((word, back), 0) + 1
        # So that the games do ask all that may be told.
        for word, back in (("", None), ("must", 2), ("must", None), ("never", None), ("may", None), ("may", 2)):
            self.assertIn((word, back), seen)
        self.assertTrue([back for word, back in seen if back is not None and back > 2])

    def test_four_hundred(self):
        for game, begin in FOUR_HUNDRED:
            self.check(game, begin, word_of(game, begin), back_of(game, begin))

    def test_by_names(self):
        game = game_of("ab", 2, (TOGGLES, TOGGLES))
        self.assertEqual(round_word(game=game, standing=(0, "aa"), most=8), "must")
        self.assertEqual(back_in(game=game, standing=(0, "aa"), most=8), 2)
        self.assertEqual(round_word(listed(game), [0, "aa"]), "must")
        self.assertEqual(back_in(listed(game), [0, "aa"]), 2)
        for asked in (lambda: round_word(game, (0, "aa"), 400), lambda: back_in(game, (0, "aa"), 400)):
            with self.assertRaises(TypeError):
                asked()


class Most(unittest.TestCase):
    def refused(self, most, asked):
        with self.assertRaises(TooMany) as caught:
            asked()
        self.assertEqual(caught.exception.what, most)

    def test_one_more(self):
        for game, begin in ONE_MORE:
            self.refused(400, lambda: round_word(game, begin))
            self.refused(400, lambda: back_in(game, begin))
            self.assertEqual(round_word(game, begin, most=401), word_of(game, begin))
            self.assertEqual(back_in(game, begin, most=401), back_of(game, begin))

    def test_as_many_one_fewer_one_more(self):
        for number, game in enumerate(random_games(92, 60, 3, 3)):
            begin = some_standings(number, game, 1)[0]
            many = len(reach_of(game, [begin]))
            for most in (many, many + 1):
                self.assertEqual(round_word(game, begin, most=most), word_of(game, begin))
                self.assertEqual(back_in(game, begin, most=most), back_of(game, begin))
            if many > 1:
                self.refused(many - 1, lambda: round_word(game, begin, most=many - 1))
                self.refused(many - 1, lambda: back_in(game, begin, most=many - 1))


if __name__ == "__main__":
    unittest.main()
