import random
import unittest

from solvedplay.errors import NoMove, TooMany
from solvedplay.plans import best_plan, counter, plan_worth
from solvedplay.solving import worth_of
from tests.asking import (FORKED, ROUND, START, STEP, STOP, STUCK, TAKING, TOGGLES, WALK, asked_games, other_turn, refused,
                          small_games, turned_round)
from tests.oracle import (after, all_standings, behind, end_of, first_best_by, game_of, line_by, listed, moves_of,
                          planned_order, planned_ways, reach_of, solve, some_standings, ways_of)
from tests.samples import FOUR_HUNDRED, ONE_MORE

# Both turn over as they like, side 1 may end, too; each standing has several moves.
TURNING = game_of("abc", 3, (TOGGLES, TOGGLES + (("bbb", "ccc"),)), ((0, "ccc", -4),))


def random_plan(dice, game, side):
    """A plan with any move of each standing of the side's turn."""
    return sorted((one, dice.choice(moves_of(game, one))) for one in all_standings(game)
                  if one[0] == side and moves_of(game, one))


class BestPlans(unittest.TestCase):
    def want(self, game, standing, side):
        told = solve(game, [standing])
        ways = ways_of(game, told)
        met, layer = set(), [standing]
        plan = {}
        while layer:
            here = layer.pop()
            if here in met:
                continue
            met.add(here)
            if here[0] == side and ways[here]:
                plan[here] = first_best_by(ways, told, here)
                layer.append(after(game, here, plan[here]))
            else:
                layer += behind(game, here)
        return sorted(plan.items())

    def check(self, game, standing, side, *want):
        self.assertEqual(best_plan(game, standing, side), list(want))
        self.assertEqual(self.want(game, standing, side), list(want))

    def test_of_its_turn(self):
        self.check(WALK, START, 0, (START, STEP), ((0, "b.x."), (2, "x.", ".x")))
        self.check(FORKED, START, 0, (START, STEP), ((0, "b.x."), (2, "x.", ".x")))

    def test_of_the_other_ones_turn(self):
        self.check(WALK, (1, "bx.."), 0, (START, STEP), ((0, "b.x."), (2, "x.", ".x")))
        self.check(WALK, START, 1, ((1, "a.x."), (0, "a", "b")))

    def test_of_side_one(self):
        self.check(turned_round(WALK), other_turn(START), 1, (other_turn(START), STEP), ((1, "b.x."), (2, "x.", ".x")))
        self.check(TAKING, (1, "x..."), 1, ((1, "x..."), (0, "x", ".")))
        self.check(TAKING, (1, "x..."), 0)

    def test_of_an_ended_one(self):
        for side in (0, 1):
            for game, standing in ((STUCK, (0, "..")), (WALK, (1, "a..x")), (TAKING, (side, "...."))):
                self.check(game, standing, side)
                self.assertEqual(best_plan(game, standing, side, most=1), [])

    def test_the_other_one_may_make_any_move(self):
        # All that side 0 can do, mistakes too, but just what comes of side 1's own moves.
        self.check(FORKED, START, 1, ((1, "a.x."), (0, "a", "b")))
        self.check(TAKING, (0, "xxx."), 1, ((1, ".xx."), (1, "x", ".")), ((1, "x.x."), (0, "x", ".")),
                   ((1, "xx.."), (0, "x", ".")))

    def test_round_for_ever(self):
        self.check(ROUND, (0, "aa"), 0, ((0, "aa"), (0, "a", "b")), ((0, "bb"), (0, "b", "a")))

    def test_every_standing_of_several_games(self):
        for game in small_games(171, 40):
            for standing in all_standings(game)[::2]:
                for side in (0, 1):
                    plan = best_plan(game, standing, side)
                    self.assertEqual(plan, self.want(game, standing, side), (game, standing, side))
                    self.assertEqual(plan_worth(game, standing, side, plan)[0], solve(game, [standing])[standing][0])

    def test_four_hundred(self):
        for game, begin in FOUR_HUNDRED:
            for side in (0, 1):
                plan = best_plan(game, begin, side)
                self.assertEqual(plan, self.want(game, begin, side))
                self.assertEqual(plan_worth(game, begin, side, plan)[0], worth_of(game, begin)[0])

    def test_kinds(self):
        plan = best_plan(WALK, START, 0)
        self.assertIs(type(plan), list)
        self.assertEqual({type(pair) for pair in plan}, {tuple})

    def test_most(self):
        for number, game in enumerate(asked_games(172, 20)):
            begin = some_standings(number, game, 1)[0]
            many = len(reach_of(game, [begin]))
            for side in (0, 1):
                self.assertEqual(best_plan(game, begin, side, most=many), best_plan(game, begin, side))
                if many > 1:
                    refused(self, TooMany, many - 1, lambda: best_plan(game, begin, side, most=many - 1))
        # How many the plan comes to is no matter.
        self.assertEqual(len(best_plan(*ONE_MORE[1], 0, most=401)), len(self.want(*ONE_MORE[1], 0)))
        refused(self, TooMany, 400, lambda: best_plan(*ONE_MORE[1], 0))


class PlanWorths(unittest.TestCase):
    def check(self, game, standing, side, plan, want, moves, word):
        self.assertEqual(plan_worth(game, standing, side, plan), want)
        self.assertEqual(counter(game, standing, side, plan), (moves, word))
        ways, told = planned_ways(game, standing, side, plan)
        self.assertEqual((told[standing], line_by(ways, told, standing)), (want, (moves, word)))

    def test_a_best_plan(self):
        self.check(WALK, START, 0, best_plan(WALK, START, 0), (5, 3), [STEP, (0, "a", "b"), (2, "x.", ".x")], "end")
        self.check(ROUND, (0, "aa"), 0, best_plan(ROUND, (0, "aa"), 0), (0, None), [(0, "a", "b"), (0, "b", "a")], "round")

    def test_a_worse_plan(self):
        self.check(FORKED, START, 0, [(START, STOP)], (2, 1), [STOP], "end")
        self.check(ROUND, (0, "aa"), 0, [((0, "aa"), (0, "aa", "cc"))], (-7, 1), [(0, "aa", "cc")], "end")
        game = turned_round(FORKED)
        self.check(game, other_turn(START), 1, [(other_turn(START), STOP)], (-2, 1), [STOP], "end")

    def test_a_slower_plan(self):
        game = game_of("abcd", 2, ((("a", "b"), ("b", "c"), ("aa", "dd")), (("a", "d"), ("d", "a"))), ((2, "dd", 5), (2, "cd", 5)))
        game = game[:4] + ((tuple(sorted(game[4][0])), game[4][1]), tuple(sorted(game[5])), (0, 0))
        self.assertEqual(worth_of(game, (0, "aa")), (5, 1))
        plan = [((0, "aa"), (0, "a", "b")), ((0, "bd"), (0, "b", "c"))]
        self.check(game, (0, "aa"), 0, plan, (5, 3), [(0, "a", "b"), (1, "a", "d"), (0, "b", "c")], "end")

    def test_the_other_one_takes_what_the_plan_gives(self):
        # Side 0 turns the last bead over and over; side 1 then has time to end at a gain for it.
        plan = sorted(((0, one), (2, one[2], "a" if one[2] == "b" else "b")) for one in
                      (a + b + c for a in "ab" for b in "ab" for c in "ab"))
        worth, far = plan_worth(TURNING, (0, "aaa"), 0, plan)
        self.assertEqual(worth, -4)
        moves, word = counter(TURNING, (0, "aaa"), 0, plan)
        self.assertEqual((word, len(moves) <= far, moves[-1]), ("end", True, (0, "bbb", "ccc")))
        self.assertEqual(worth_of(TURNING, (0, "aaa"))[0], 0)

    def test_counter_by_what_is_left(self):
        # By the whole game side 1 can't gain; against the plan it can, and does.
        plan = [(START, STOP)]
        game = FORKED[:5] + (((2, "...", -2), (2, "..x", 5)), (0, 0))
        self.check(game, START, 0, plan, (-2, 1), [STOP], "end")
        self.check(game, (1, "bx.."), 0, plan, (-2, 2), [(0, "b", "a"), STOP], "end")

    def test_side_of_no_turn(self):
        # Play comes to none of the side's turn that isn't ended.
        for plan in ([], [((0, "aa"), (9, "a", "b"))]):
            self.check(TAKING, (1, "x..."), 0, plan, (-3, 1), [(0, "x", ".")], "end")

    def test_ended_ones(self):
        for side in (0, 1):
            for plan in ([], [((side, ".."), (0, ".", "x"))]):
                self.check(STUCK, (side, ".."), side, plan, (0, 0), [], "end")
            self.check(WALK, (1, "a..x"), side, [], (5, 0), [], "end")

    def test_pairs_that_play_does_not_come_to(self):
        plan = sorted([(START, STEP), ((0, "b.x."), (2, "x.", ".x")), ((0, "...."), (0, "x", "y")), ((0, "bx.."), ()),
                       ((0, "xxxx"), None), ((0, "a.x."), (True,)), ((1, "a.x."), (7, "q", "r"))], key=lambda pair: pair[0])
        self.check(WALK, START, 0, plan, (5, 3), [STEP, (0, "a", "b"), (2, "x.", ".x")], "end")

    def test_a_pair_of_an_ended_one_is_not_looked_at(self):
        self.check(WALK, (0, "b.x."), 0, [((0, "b.x."), (2, "x.", ".x")), ((0, "b..x"), (9, "a", "b"))], (5, 1),
                   [(2, "x.", ".x")], "end")
        game = WALK[:5] + (((0, "..x", 5),), (0, 0))
        self.check(game, (0, "b.x."), 0, [((0, "a..x"), "no"), ((0, "b.x."), (2, "x.", ".x"))], (5, 2),
                   [(2, "x.", ".x"), (0, "b", "a")], "end")

    def test_random_plans(self):
        dice = random.Random(173)
        words, worse = set(), 0
        for game in small_games(174, 300):
            for number in range(6):
                side, standing = dice.randrange(2), dice.choice(all_standings(game))
                plan = random_plan(dice, game, side)
                ways, told = planned_ways(game, standing, side, plan)
                self.assertEqual(plan_worth(game, standing, side, plan), told[standing], (game, standing, side, plan))
                want = line_by(ways, told, standing)
                self.assertEqual(counter(game, standing, side, plan), want, (game, standing, side, plan))
                words.add(want[1])
                whole = worth_of(game, standing)[0]
                # No plan is better for its side than the standing.
                self.assertTrue(told[standing][0] <= whole if side == 0 else told[standing][0] >= whole)
                worse += told[standing][0] != whole
        self.assertEqual(words, {"end", "round"})
        self.assertTrue(worse > 20, worse)

    def test_any_play_against_a_plan(self):
        dice = random.Random(175)
        for game in small_games(176, 40):
            for number in range(6):
                side, standing = dice.randrange(2), dice.choice(all_standings(game))
                plan = dict(random_plan(dice, game, side))
                worth, far = plan_worth(game, standing, side, sorted(plan.items()))
                for play in range(5):
                    here, count = standing, 0
                    while end_of(game, here) is None and count < 60:
                        move = plan[here] if here[0] == side else dice.choice(moves_of(game, here))
                        here, count = after(game, here, move), count + 1
                    got = end_of(game, here) or 0
                    self.assertTrue(got >= worth if side == 0 else got <= worth, (game, standing, side, plan))

    def test_lists_for_tuples(self):
        plan = best_plan(WALK, START, 0)
        for turned in (listed(plan), tuple(plan), [list(pair) for pair in plan], [(one, list(move)) for one, move in plan]):
            self.assertEqual(plan_worth(listed(WALK), list(START), 0, turned), (5, 3))
            self.assertEqual(counter(listed(WALK), list(START), 0, turned), counter(WALK, START, 0, plan))

    def test_by_names(self):
        plan = best_plan(game=WALK, standing=START, side=0, most=4)
        self.assertEqual(plan_worth(game=WALK, standing=START, side=0, plan=plan, most=4), (5, 3))
        self.assertEqual(counter(game=WALK, standing=START, side=0, plan=plan, most=4), counter(WALK, START, 0, plan))
        for asked in (lambda: best_plan(WALK, START, 0, 400), lambda: plan_worth(WALK, START, 0, plan, 400),
                      lambda: counter(WALK, START, 0, plan, 400)):
            with self.assertRaises(TypeError):
                asked()


class Refused(unittest.TestCase):
    def check(self, refusal, what, game, standing, side, plan, **most):
        refused(self, refusal, what, lambda: plan_worth(game, standing, side, plan, **most))
        refused(self, refusal, what, lambda: counter(game, standing, side, plan, **most))

    def test_no_pair(self):
        self.check(NoMove, START, WALK, START, 0, [])
        self.check(NoMove, (0, "b.x."), WALK, START, 0, [(START, STEP)])
        self.check(NoMove, START, WALK, (1, "bx.."), 0, [((0, "b.x."), (2, "x.", ".x"))])
        self.check(NoMove, (1, "a.x."), WALK, START, 1, [(START, STEP)])

    def test_a_tuple(self):
        self.check(NoMove, START, listed(WALK), list(START), 0, [])
        self.check(NoMove, START, listed(WALK), list(START), 0, [[list(START), [True, "x.", ".x"]]])

    def test_no_move(self):
        for move in ((True, "x.", ".x"), (1, "x."), (), (1, "x.", ".x", 0), (0, "x.", ".x"), (1, ".x", "x."), (0, "a", "b"),
                     (1, "x.", "x."), ("1", "x.", ".x"), (1, "x.", (".x",)), None, 1, "1:x.>.x"):
            self.check(NoMove, START, WALK, START, 0, [(START, move)])
            self.check(NoMove, START, WALK, START, 0, [(START, move), ((0, "b.x."), (2, "x.", ".x"))])
            self.check(NoMove, (0, "b.x."), WALK, START, 0, [(START, STEP), ((0, "b.x."), move)])
        for move in (STEP, (False, "a", "b"), (0, "b", "a")):
            self.check(NoMove, (1, "a.x."), WALK, START, 1, [((1, "a.x."), move)])

    def test_the_first_in_order(self):
        # Side 0 turns one of three over; side 1 lacks moves at all three that come of it.
        orders = [(1, "baa"), (1, "aba"), (1, "aab")]
        self.assertEqual(behind(TURNING, (0, "aaa")), orders)
        self.check(NoMove, (1, "baa"), TURNING, (0, "aaa"), 1, [])
        plan = [((1, "aab"), (0, "a", "b")), ((1, "baa"), (0, "b", "a"))]
        self.check(NoMove, (1, "aba"), TURNING, (0, "aaa"), 1, plan)
        # What comes of the first one is behind the others.
        plan = [((1, "aba"), (1, "b", "a")), ((1, "baa"), (1, "a", "b"))]
        self.check(NoMove, (1, "aab"), TURNING, (0, "aaa"), 1, plan)

    def test_ahead_of_too_many(self):
        # The one that lacks a move is among the first two, three; then it's one too many.
        self.check(TooMany, 1, WALK, (1, "bx.."), 0, [], most=1)
        self.check(NoMove, START, WALK, (1, "bx.."), 0, [], most=2)
        self.check(TooMany, 1, TURNING, (0, "aaa"), 1, [], most=1)
        self.check(NoMove, (1, "baa"), TURNING, (0, "aaa"), 1, [], most=2)
        plan = [((1, "baa"), (0, "b", "a"))]
        self.check(TooMany, 2, TURNING, (0, "aaa"), 1, plan, most=2)
        self.check(NoMove, (1, "aba"), TURNING, (0, "aaa"), 1, plan, most=3)
        self.check(NoMove, (1, "aba"), TURNING, (0, "aaa"), 1, plan)
        self.check(NoMove, START, WALK, START, 0, [], most=1)

    def test_too_many_by_the_plan(self):
        # Just those to which play by the plan comes are counted.
        plan = [(START, STOP)]
        self.assertEqual(plan_worth(FORKED, START, 0, plan, most=2), (2, 1))
        self.check(TooMany, 1, FORKED, START, 0, plan, most=1)
        self.assertTrue(len(reach_of(FORKED, [START])) > 2)
        for game, begin in ONE_MORE:
            for side in (0, 1):
                plan = random_plan(random.Random(7), game, side)
                many = len(planned_order(game, begin, side, plan)[0])
                if many <= 400:
                    self.assertEqual(plan_worth(game, begin, side, plan), plan_worth(game, begin, side, plan, most=many))
                self.check(TooMany, many - 1, game, begin, side, plan, most=many - 1)

    def test_random_plans_with_pairs_out(self):
        dice = random.Random(177)
        seen = {"no": 0, "many": 0, "told": 0}
        for game in small_games(178, 60):
            for number in range(8):
                side, standing = dice.randrange(2), dice.choice(all_standings(game))
                plan = random_plan(dice, game, side)
                plan = [pair for pair in plan if dice.randrange(5)]
                plan = [(one, move if dice.randrange(8) else dice.choice([move[:2], (bool(move[0]), *move[1:]), (9, "a", "b")]))
                        for one, move in plan]
                most = dice.choice([1, 2, 3, 4, 5, 8, 12, 400])
                told, lacking = planned_order(game, standing, side, plan)
                early = [one for one in told[:most] if one in lacking]
                if early:
                    self.check(NoMove, early[0], game, standing, side, plan, most=most)
                    seen["no"] += 1
                elif len(told) > most:
                    self.check(TooMany, most, game, standing, side, plan, most=most)
                    seen["many"] += 1
                else:
                    want = planned_ways(game, standing, side, plan)[1][standing]
                    self.assertEqual(plan_worth(game, standing, side, plan, most=most), want)
                    seen["told"] += 1
        self.assertTrue(min(seen.values()) > 30, seen)


if __name__ == "__main__":
    unittest.main()
