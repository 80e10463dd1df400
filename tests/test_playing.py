import random
import unittest

from solvedplay.errors import TooMany
from solvedplay.playing import best_moves, judged, line, puzzles
from tests.asking import (FORKED, RINGED, ROUND, START, STEP, STOP, STUCK, TAKING, WALK, asked_games, other_turn, refused,
                          small_games, turned_round, walk)
from tests.oracle import (after, all_standings, end_of, game_of, judged_by, line_by, listed, moves_of, random_games, reach_of,
                          solve, some_standings, ways_of)
from tests.samples import FOUR_HUNDRED, ONE_MORE


def both_sides(game, standing):
    return ((1, game, standing), (-1, turned_round(game), other_turn(standing)))


class Judged(unittest.TestCase):
    def check(self, game, standing, *want):
        """Of the game, and of the same for the other side."""
        for sign, one, here in both_sides(game, standing):
            rows = [(move, word, sign * worth, far) for move, word, worth, far in want]
            self.assertEqual(judged(one, here), rows)
            self.assertEqual(best_moves(one, here), [row[0] for row in rows if row[1] == "best"])
            found = reach_of(one, [here])
            self.assertEqual(judged_by(ways_of(one, found), solve(one, [here]), here), rows)

    def test_the_only_move(self):
        self.check(WALK, START, (STEP, "best", 5, 2))
        self.check(WALK, (1, "ax.."), ((0, "a", "b"), "best", 5, 3))

    def test_a_mistake_of_the_side_that_gains(self):
        self.check(FORKED, START, (STOP, "mistake", 2, 0), (STEP, "best", 5, 2))

    def test_slower(self):
        game = walk(((2, "...", 5), (2, "..x", 5)), (("x.", ".."),))
        self.check(game, START, (STOP, "best", 5, 0), (STEP, "slower", 5, 2))

    def test_sooner(self):
        game = walk(((2, "...", -5), (2, "..x", -5)), (("x.", ".."),))
        self.check(game, START, (STOP, "sooner", -5, 0), (STEP, "best", -5, 2))

    def test_a_mistake_of_the_side_that_loses(self):
        game = walk(((2, "...", -5), (2, "..x", -3)), (("x.", ".."),))
        self.check(game, START, (STOP, "mistake", -5, 0), (STEP, "best", -3, 2))

    def test_a_worse_end_that_is_later_is_a_mistake_still(self):
        game = walk(((2, "...", -1), (2, "..x", -3)), (("x.", ".."),))
        self.check(game, (0, "a.x."), ((2, "x.", ".."), "best", -1, 0), ((2, "x.", ".x"), "mistake", -3, 0))
        # Far ahead is 3, by the worse end that is later; the best move has far 2, and leads to -1 then.
        self.check(game, START, (STOP, "sooner", -1, 0), (STEP, "best", -1, 2))

    def test_several_best_ones(self):
        more = (("x.", ".."), ("x.", ".b"))
        game = walk(((2, "...", 5), (2, "..x", 5), (2, ".b", 5)), more)
        self.check(game, START, (STOP, "best", 5, 0), ((1, "x.", ".b"), "best", 5, 0), (STEP, "slower", 5, 2))
        game = walk(((2, "...", -5), (2, "..x", -5), (2, ".b", -5)), more)
        self.check(game, START, (STOP, "sooner", -5, 0), ((1, "x.", ".b"), "sooner", -5, 0), (STEP, "best", -5, 2))
        self.check(game, (0, "a.x."), *[((2, "x.", new), "best", -5, 0) for new in ("..", ".b", ".x")])

    def test_nought(self):
        self.check(ROUND, (0, "aa"), ((0, "a", "b"), "best", 0, None), ((0, "aa", "cc"), "mistake", -7, 0),
                   ((1, "a", "b"), "best", 0, None))
        self.check(ROUND, (1, "aa"), ((0, "a", "b"), "best", 0, None), ((1, "a", "b"), "best", 0, None))
        # To an end at 0, or round for ever: both are best.
        game = game_of("abc", 2, ((("a", "b"), ("aa", "cc"), ("b", "a")), ROUND[4][1]), ((2, "c", 7), (2, "cc", -7)))
        self.check(game, (0, "aa"), ((0, "a", "b"), "best", 0, None), ((0, "aa", "cc"), "best", 0, 0),
                   ((1, "a", "b"), "best", 0, None))

    def test_a_gain_given_away_for_play_without_end(self):
        game = game_of("abc", 2, ((("a", "b"), ("aa", "cc"), ("b", "a")), ROUND[4][1]), ((2, "cc", 7),))
        self.check(game, (0, "aa"), ((0, "a", "b"), "mistake", 0, None), ((0, "aa", "cc"), "best", 7, 0),
                   ((1, "a", "b"), "mistake", 0, None))

    def test_a_gain_given_away_for_a_loss(self):
        game = walk(((2, "...", -2), (2, "..x", 5)), (("x.", ".."),))
        self.check(game, START, (STOP, "mistake", -2, 0), (STEP, "best", 5, 2))

    def test_ended_ones(self):
        for game, standing in ((WALK, (1, "a..x")), (STUCK, (0, "..")), (TAKING, (0, "....")), (ROUND, (1, "cc"))):
            self.check(game, standing)
            self.assertEqual(judged(game, standing, most=1), [])

    def test_kinds(self):
        told = judged(FORKED, START)
        self.assertIs(type(told), list)
        self.assertEqual({type(row) for row in told} | {type(row[0]) for row in told}, {tuple})
        self.assertIs(type(best_moves(FORKED, START)), list)

    def test_every_standing_of_several_games(self):
        seen = set()
        games = asked_games(161, 120)
        for game in games + [turned_round(game) for game in games]:
            found = all_standings(game)
            told, ways = solve(game, found), ways_of(game, found)
            for standing in found:
                want = judged_by(ways, told, standing)
                self.assertEqual(judged(game, standing), want, (game, standing))
                best = [row[0] for row in want if row[1] == "best"]
                self.assertEqual(best_moves(game, standing), best)
                self.assertEqual(best == [], end_of(game, standing) is not None)
                for move, word, worth, far in want:
                    ahead = told[standing][0]
                    seen.add((standing[0], word, (ahead > 0) - (ahead < 0)))
                    # A mistake is for the worse.
                    if word == "mistake":
                        self.assertTrue(worth < ahead if standing[0] == 0 else worth > ahead)
        wanted = {(side, word, sign) for side in (0, 1) for word, sign in
                  (("best", -1), ("best", 0), ("best", 1), ("mistake", -1), ("mistake", 0), ("mistake", 1))}
        wanted |= {(0, "slower", 1), (1, "slower", -1), (0, "sooner", -1), (1, "sooner", 1)}
        self.assertEqual(seen, wanted)

    def test_four_hundred(self):
        for game, begin in FOUR_HUNDRED:
            found = reach_of(game, [begin])
            self.assertEqual(judged(game, begin), judged_by(ways_of(game, found), solve(game, [begin]), begin))


class Lines(unittest.TestCase):
    def check(self, game, standing, moves, word):
        for sign, one, here in both_sides(game, standing):
            self.assertEqual(line(one, here), (moves, word))
            self.assertEqual(line_by(ways_of(one, reach_of(one, [here])), solve(one, [here]), here), (moves, word))

    def test_to_an_end(self):
        self.check(WALK, START, [STEP, (0, "a", "b"), (2, "x.", ".x")], "end")
        self.check(FORKED, START, [STEP, (0, "a", "b"), (2, "x.", ".x")], "end")
        self.check(TAKING, (0, "xx.."), [(0, "x", "."), (1, "x", ".")], "end")

    def test_the_first_best_one(self):
        game = walk(((2, "...", 5), (2, ".b", 5)), (("x.", ".."), ("x.", ".b")))
        self.check(game, START, [STOP], "end")

    def test_round(self):
        self.check(RINGED, (0, "x.."), [(0, "x.", ".x"), (1, "x.", ".x"), (2, "x.", ".x")] * 2, "round")
        self.check(ROUND, (0, "aa"), [(0, "a", "b"), (0, "b", "a")], "round")

    def test_round_to_another_than_the_first(self):
        # c is gone for ever, then it goes round.
        game = game_of("abc", 2, ((("a", "b"), ("b", "a"), ("cc", "aa")), (("a", "b"), ("b", "a"))))
        self.check(game, (0, "cc"), [(0, "cc", "aa"), (0, "a", "b"), (0, "b", "a")], "round")

    def test_ended_ones(self):
        for game, standing in ((WALK, (1, "a..x")), (STUCK, (0, "..")), (TAKING, (0, "....")), (ROUND, (1, "cc"))):
            self.check(game, standing, [], "end")
            self.assertEqual(line(game, standing, most=1), ([], "end"))

    def test_every_standing_of_several_games(self):
        words = set()
        for game in asked_games(162, 80):
            found = all_standings(game)
            told, ways = solve(game, found), ways_of(game, found)
            for standing in found:
                moves, word = line(game, standing)
                self.assertEqual((moves, word), line_by(ways, told, standing), (game, standing))
                here = standing
                for move in moves:
                    self.assertIn(move, moves_of(game, here))
                    here = after(game, here, move)
                worth, far = told[standing]
                if worth != 0:
                    self.assertEqual((word, end_of(game, here)), ("end", worth))
                    self.assertTrue(len(moves) <= far)
                words.add((word, worth != 0))
        self.assertEqual(words, {("end", True), ("end", False), ("round", False)})

    def test_four_hundred(self):
        for game, begin in FOUR_HUNDRED:
            found = reach_of(game, [begin])
            self.assertEqual(line(game, begin), line_by(ways_of(game, found), solve(game, [begin]), begin))

    def test_kinds(self):
        told = line(WALK, START)
        self.assertEqual([type(part) for part in (told, *told)], [tuple, list, str])


class Puzzles(unittest.TestCase):
    def want(self, game, begins, far):
        told = solve(game, begins)
        found = []
        for one in told:
            worth, one_far = told[one]
            keeping = [move for move in moves_of(game, one) if told[after(game, one, move)][0] == worth]
            if one_far == far and (worth > 0 if one[0] == 0 else worth < 0) and len(keeping) == 1:
                found.append(one)
        return sorted(found)

    def test_of_each_far(self):
        self.assertEqual(puzzles(WALK, [START], 1), [(0, "b.x.")])
        self.assertEqual(puzzles(WALK, [START], 2), [])
        self.assertEqual(puzzles(WALK, [START], 3), [START])
        self.assertEqual(puzzles(WALK, [START], 4), [])
        self.assertEqual(puzzles(WALK, [(1, "bx..")], 3), [START])
        self.assertEqual(puzzles(turned_round(WALK), [other_turn(START)], 3), [other_turn(START)])

    def test_a_loss_is_none(self):
        # On side 0's turn it's none, on side 1's it is.
        game = walk(((2, "..x", -5),))
        for far, want in ((1, []), (2, [(1, "a.x.")]), (3, []), (4, [])):
            self.assertEqual(puzzles(game, [START], far), want)
            self.assertEqual(puzzles(turned_round(game), [other_turn(START)], far), [other_turn(one) for one in want])

    def test_a_mistake_beside_it(self):
        self.assertEqual(puzzles(FORKED, [START], 3), [START])

    def test_two_moves_keep_the_worth(self):
        for ends in (((2, "...", 5), (2, "..x", 5)), ((2, "...", 5), (2, ".b", 5))):
            game = walk(ends, (("x.", ".."), ("x.", ".b")))
            self.assertNotIn(START, puzzles(game, [START], 1))

    def test_two_moves_to_the_same_standing(self):
        game = game_of("abc", 2, ((("a", "b"), ("ac", "bc")), ()), ((1, "bc", 5),))
        self.assertEqual(puzzles(game, [(0, "ac")], 1), [])
        for rules in ((("a", "b"),), (("ac", "bc"),)):
            self.assertEqual(puzzles(game[:4] + ((rules, ()),) + game[5:], [(0, "ac")], 1), [(0, "ac")])

    def test_several_begins(self):
        begins = [(1, "bx.."), (0, "x.aa"), (0, "b.x."), (0, "x...")]
        self.assertEqual(puzzles(WALK, begins, 1), self.want(WALK, begins, 1))
        self.assertEqual(puzzles(WALK, begins + begins[::-1], 3), self.want(WALK, begins, 3))
        self.assertEqual(puzzles(WALK, [], 1), [])

    def test_a_far_that_none_has(self):
        for far in (7, 40, 400):
            self.assertEqual(puzzles(WALK, [START], far), [])
        self.assertEqual(puzzles(ROUND, [(0, "aa")], 1), [])
        self.assertEqual(puzzles(STUCK, all_standings(STUCK), 1), [])

    def test_random_games(self):
        fars = {}
        for number, game in enumerate(small_games(163, 200) + random_games(164, 30, 4, 3)):
            for begins in (all_standings(game), some_standings(number, game, 2)):
                for far in range(1, 6):
                    want = self.want(game, begins, far)
                    self.assertEqual(puzzles(game, begins, far), want, (game, begins, far))
                    fars[far] = fars.get(far, 0) + len(want)
        self.assertTrue(fars[1] > 20 and fars[3] > 5, fars)


class Most(unittest.TestCase):
    def asked(self, game, begin):
        return [lambda **most: judged(game, begin, **most), lambda **most: best_moves(game, begin, **most),
                lambda **most: line(game, begin, **most), lambda **most: puzzles(game, [begin], 1, **most)]

    def test_one_more(self):
        for game, begin in ONE_MORE:
            for asked in self.asked(game, begin):
                refused(self, TooMany, 400, lambda: asked())
                refused(self, TooMany, 400, lambda: asked(most=400))
                asked(most=401)

    def test_as_many_and_one_fewer(self):
        for number, game in enumerate(asked_games(165, 30)):
            begin = some_standings(number, game, 1)[0]
            many = len(reach_of(game, [begin]))
            for asked in self.asked(game, begin):
                self.assertEqual(asked(most=many), asked())
                if many > 1:
                    refused(self, TooMany, many - 1, lambda: asked(most=many - 1))

    def test_by_name_alone(self):
        for asked in (lambda: judged(WALK, START, 400), lambda: best_moves(WALK, START, 400), lambda: line(WALK, START, 400),
                      lambda: puzzles(WALK, [START], 1, 400)):
            with self.assertRaises(TypeError):
                asked()

    def test_by_names_and_as_lists(self):
        game, begin = listed(FORKED), listed(START)
        self.assertEqual(judged(game=game, standing=begin, most=20), judged(FORKED, START))
        self.assertEqual(best_moves(game=game, standing=begin, most=20), best_moves(FORKED, START))
        self.assertEqual(line(game=game, standing=begin, most=20), line(FORKED, START))
        self.assertEqual(puzzles(game=game, standings=(begin,), far=3, most=20), puzzles(FORKED, [START], 3))


class Played(unittest.TestCase):
    """Who plays as told gets the told worth or more, a gain within the told distance."""

    def play(self, dice, game, told, standing, side):
        """The moves of a play: the side makes any best move, the other one any."""
        here, count, errs = standing, 0, False
        while end_of(game, here) is None and count < 60:
            moves = best_moves(game, here) if here[0] == side else moves_of(game, here)
            behind = after(game, here, dice.choice(moves))
            errs = errs or told[behind][0] != told[here][0]
            here, count = behind, count + 1
        return here, count, errs

    def test_against_any_play(self):
        dice = random.Random(166)
        gains = 0
        for game in small_games(167, 60):
            told = solve(game, all_standings(game))
            for number in range(12):
                standing, side = dice.choice(all_standings(game)), dice.randrange(2)
                worth, far = told[standing]
                here, count, errs = self.play(dice, game, told, standing, side)
                # Play that goes on is worth 0.
                got = end_of(game, here) or 0
                self.assertTrue(got >= worth if side == 0 else got <= worth, (game, standing, side))
                if worth > 0 and side == 0 or worth < 0 and side == 1:
                    self.assertIsNotNone(end_of(game, here))
                    gains += 1
                    if not errs:
                        self.assertEqual(got, worth)
                        self.assertTrue(count <= far)
        self.assertTrue(gains > 50)


if __name__ == "__main__":
    unittest.main()
