import random
import unittest

from solvedplay.errors import NoMove, TooMany
from solvedplay.playing import judged
from solvedplay.records import played, told_moves
from tests.asking import (FORKED, LONG, LONGER, RINGED, ROUND, START, STEP, STOP, STUCK, TAKING, WALK, WALKED, asked_games,
                          random_record, refused, small_games)
from tests.oracle import after, all_standings, judged_by, listed, moves_of, reach_of, solve, ways_of
from tests.samples import FOUR_HUNDRED, ONE_MORE


class Played(unittest.TestCase):
    def test_no_moves(self):
        for game in (WALK, STUCK):
            for standing in all_standings(game)[::50]:
                self.assertEqual(played(game, (standing, [])), [standing])

    def test_some_moves(self):
        self.assertEqual(played(WALK, WALKED), [START, (1, "a.x."), (0, "b.x."), (1, "b..x")])
        self.assertEqual(played(WALK, (START, WALKED[1][:1])), [START, (1, "a.x.")])

    def test_forty(self):
        told = played(RINGED, LONG)
        self.assertEqual(len(told), 41)
        self.assertEqual(told, [(number % 2, ("x..", ".x.", "..x")[number % 3]) for number in range(41)])

    def test_random_records(self):
        dice = random.Random(181)
        for game in asked_games(182, 40):
            for number in range(5):
                record = random_record(dice, game, 40)
                told = played(game, record)
                self.assertEqual((told[0], len(told)), (record[0], len(record[1]) + 1))
                for at, move in enumerate(record[1]):
                    self.assertEqual(told[at + 1], after(game, told[at], move))

    def test_kinds_and_lists(self):
        for record in (WALKED, listed(WALKED), (START, tuple(WALKED[1])), [START, WALKED[1]], (list(START), WALKED[1])):
            self.assertEqual(repr(played(listed(WALK), record)), repr(played(WALK, WALKED)))
        self.assertIs(type(played(WALK, WALKED)), list)
        self.assertEqual(played(game=WALK, record=WALKED), played(WALK, WALKED))

    def test_what_is_handed_in_stays(self):
        record = listed(WALKED)
        told = played(WALK, record)
        told.clear()
        self.assertEqual(record, listed(WALKED))
        record[1].append("more")
        self.assertEqual(len(played(WALK, WALKED)), 4)


class NoMoves(unittest.TestCase):
    def check(self, game, record, number, move, **most):
        refused(self, NoMove, (number, move), lambda: played(game, record))
        refused(self, NoMove, (number, move), lambda: told_moves(game, record, **most))

    def test_each_that_cannot_be_made(self):
        for move in ((0, "a", "b"), (0, "x.", ".x"), (2, "x.", ".x"), (True, "x.", ".x"), (1, "x."), (), (1, "x.", ".x", 1),
                     (1, "x.", "x."), ("1", "x.", ".x"), (None, "x.", ".x"), (-3, "x.", ".x"), (5, "x.", ".x"), ((1,), "x.", ".x")):
            self.check(WALK, (START, [move]), 0, move)
            self.check(WALK, (START, [move] + WALKED[1]), 0, move)
            self.check(WALK, (listed(START), [listed(move)]), 0, move)
            self.check(WALK, ((1, "bx.."), [(0, "b", "a"), move]), 1, move)

    def test_of_the_other_side(self):
        self.check(WALK, (START, [STEP, (2, "x.", ".x")]), 1, (2, "x.", ".x"))
        self.check(WALK, ((1, "ax.."), [STEP]), 0, STEP)

    def test_at_another_place(self):
        self.check(WALK, (START, [STEP, (1, "a", "b")]), 1, (1, "a", "b"))
        self.check(RINGED, ((0, "x.."), LONG[1][:5] + LONG[1][:2]), 5, LONG[1][0])

    def test_of_an_ended_one(self):
        self.check(WALK, (START, WALKED[1] + [(0, "b", "a")]), 3, (0, "b", "a"))
        self.check(STUCK, ((0, ".."), [(0, ".", "x")]), 0, (0, ".", "x"))
        self.check(WALK, ((0, "x..x"), [(0, "x.", ".x")]), 0, (0, "x.", ".x"))

    def test_a_truth_for_a_place(self):
        self.check(WALK, (START, [STEP, (False, "a", "b")]), 1, (False, "a", "b"))

    def test_the_first_of_several(self):
        self.check(WALK, (START, [STEP, (7, "a", "b"), (8, "a", "b")]), 1, (7, "a", "b"))

    def test_the_last_of_forty(self):
        wrong = (1, "x.", ".x")
        self.check(RINGED, (LONG[0], LONG[1][:39] + [wrong]), 39, wrong)
        self.check(RINGED, (LONG[0], LONG[1] + [LONG[1][0]]), 40, LONG[1][0])

    def test_what_the_refusal_has_is_not_kept(self):
        move = [7, "a", "b"]
        with self.assertRaises(NoMove) as caught:
            played(WALK, [list(START), [move]])
        move.clear()
        self.assertEqual(caught.exception.what, (0, (7, "a", "b")))

    def test_ahead_of_too_many(self):
        self.check(WALK, (START, [STOP]), 0, STOP, most=1)
        self.check(WALK, (START, [STEP, STEP]), 1, STEP, most=1)


class ToldMoves(unittest.TestCase):
    def test_each_word(self):
        self.assertEqual(told_moves(FORKED, (START, [STOP])), [("mistake", 2, 0)])
        self.assertEqual(told_moves(FORKED, WALKED), [("best", 5, 2), ("best", 5, 1), ("best", 5, 0)])
        self.assertEqual(told_moves(ROUND, ((0, "aa"), [(0, "a", "b"), (0, "b", "a"), (0, "aa", "cc")])),
                         [("best", 0, None), ("best", 0, None), ("mistake", -7, 0)])
        game = FORKED[:5] + (((2, "...", 5), (2, "..x", 5)), (0, 0))
        self.assertEqual(told_moves(game, (START, [STEP])), [("slower", 5, 2)])
        game = FORKED[:5] + (((2, "...", -5), (2, "..x", -5)), (0, 0))
        self.assertEqual(told_moves(game, (START, [STOP])), [("sooner", -5, 0)])

    def test_no_moves(self):
        self.assertEqual(told_moves(WALK, (START, [])), [])
        self.assertEqual(told_moves(STUCK, ((0, ".."), [])), [])

    def test_as_judged(self):
        dice = random.Random(183)
        words = set()
        for game in small_games(184, 80):
            told = solve(game, all_standings(game))
            ways = ways_of(game, all_standings(game))
            for number in range(4):
                record = random_record(dice, game, 40)
                want = []
                for here, move in zip(played(game, record), record[1]):
                    row = [row for row in judged_by(ways, told, here) if row[0] == move][0]
                    want.append(row[1:])
                    words.add(row[1])
                self.assertEqual(told_moves(game, record), want)
        self.assertTrue({"best", "mistake", "slower"} <= words)

    def test_four_hundred(self):
        dice = random.Random(185)
        for game, begin in FOUR_HUNDRED:
            here, made = begin, []
            while moves_of(game, here) and len(made) < 3:
                made.append(dice.choice(moves_of(game, here)))
                here = after(game, here, made[-1])
            rows = [judged(game, one) for one in played(game, (begin, made))]
            want = [row[1:] for row_list, move in zip(rows, made) for row in row_list if row[0] == move]
            self.assertEqual(told_moves(game, (begin, made)), want)

    def test_forty_and_more(self):
        self.assertEqual(told_moves(RINGED, LONG), [("best", 0, None)] * 40)
        self.assertEqual(len(told_moves(RINGED, LONGER)), 41)

    def test_kinds_and_lists(self):
        for record in (WALKED, listed(WALKED), (START, tuple(WALKED[1])), [START, WALKED[1]]):
            self.assertEqual(repr(told_moves(listed(WALK), record)), repr(told_moves(WALK, WALKED)))
        self.assertEqual(told_moves(game=WALK, record=WALKED, most=4), told_moves(WALK, WALKED))
        with self.assertRaises(TypeError):
            told_moves(WALK, WALKED, 400)

    def test_too_many(self):
        refused(self, TooMany, 3, lambda: told_moves(WALK, WALKED, most=3))
        refused(self, TooMany, 3, lambda: told_moves(WALK, (START, []), most=3))
        self.assertEqual(told_moves(WALK, (START, []), most=4), [])
        for game, begin in ONE_MORE:
            for moves in ([], moves_of(game, begin)[:1]):
                refused(self, TooMany, 400, lambda: told_moves(game, (begin, moves)))
                self.assertEqual(len(told_moves(game, (begin, moves), most=401)), len(moves))

    def test_as_many_and_one_fewer(self):
        dice = random.Random(186)
        for game in asked_games(187, 20):
            record = random_record(dice, game, dice.randrange(4))
            many = len(reach_of(game, [record[0]]))
            self.assertEqual(told_moves(game, record, most=many), told_moves(game, record))
            if many > 1:
                refused(self, TooMany, many - 1, lambda: told_moves(game, record, most=many - 1))

    def test_where_it_goes_is_no_matter(self):
        # Few are reached from the end of the record, more from its begin.
        self.assertEqual(len(reach_of(TAKING, [(0, "x...")])), 2)
        record = ((0, "xxx."), [(0, "x", "."), (1, "x", ".")])
        refused(self, TooMany, 7, lambda: told_moves(TAKING, record, most=7))
        self.assertEqual(len(told_moves(TAKING, record, most=8)), 2)


if __name__ == "__main__":
    unittest.main()
