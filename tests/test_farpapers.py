import copy
import random
import unittest

from solvedplay.errors import TooMany
from solvedplay.farpapers import far_paper, shows_far
from solvedplay.solving import worth_of
from tests.asking import (FORKED, OTHERS, ROUND, START, STUCK, WALK, asked_games, other_turn, refused, small_games, swapped,
                          turned_round, walk)
from tests.judges import broken_far, full_far
from tests.oracle import all_standings, end_of, listed, moves_of, reach_of, solve
from tests.samples import FOUR_HUNDRED, ONE_MORE

QUICK = [((0, "ax.."), (1, "x.", ".x"), 3), ((0, "b.x."), (2, "x.", ".x"), 1), ((1, "a.x."), None, 2),
         ((1, "b..x"), None, 0)]
SLOW = [((0, "ax.."), 2, None), ((0, "b.x."), 0, None), ((1, "a.x."), 1, (0, "a", "b"))]
PAPER = (5, 3, QUICK, SLOW)

# The gaining side of a game that has a lesser gain near by: it ends at 2 at once, or walks on to 5.
LATE = [((0, "ax.."), 2, None), ((0, "b.x."), 0, None), ((1, "a..."), 1, None), ((1, "a.x."), 1, (0, "a", "b"))]


def as_side_one(thing):
    """The same paper in the game turned round."""
    worth, far, quick, slow = thing
    quick = sorted([(other_turn(row[0]), *row[1:]) for row in quick], key=lambda row: row[0])
    slow = sorted([(other_turn(row[0]), *row[1:]) for row in slow], key=lambda row: row[:2])
    return (-worth, far, quick, slow)


class Told(unittest.TestCase):
    def check(self, game, standing, want):
        told = far_paper(game, standing)
        self.assertEqual(told[:2], want, (game, standing))
        self.assertEqual(broken_far(game, standing, told), set(), (game, standing, told))
        self.assertIs(shows_far(game, standing, told), True, (game, standing, told))
        self.assertEqual([type(part) for part in (told, *told)], [tuple, int, int, list, list])
        return told

    def test_every_standing_of_several_games(self):
        seen = set()
        for game in asked_games(121, 60):
            worths = solve(game, all_standings(game))
            for standing in all_standings(game):
                worth, far = worths[standing]
                self.assertEqual(worth_of(game, standing), (worth, far))
                if worth == 0 or end_of(game, standing) is not None:
                    self.assertIs(far_paper(game, standing), None)
                else:
                    self.check(game, standing, (worth, far))
                    seen.add((game[1], worth > 0, standing[0]))
        self.assertEqual(len(seen), 8)

    def test_longer_games(self):
        for number, game in enumerate(asked_games(122, 40, 4)):
            for standing in random.Random(number).sample(all_standings(game), 6):
                worth, far = solve(game, [standing])[standing]
                if worth != 0 and far != 0:
                    self.check(game, standing, (worth, far))

    def test_four_hundred(self):
        for (game, begin), want in zip(FOUR_HUNDRED[:2], ((3, 3), (-2, 10))):
            self.check(game, begin, want)
            self.check(turned_round(game), other_turn(begin), (-want[0], want[1]))
        self.assertIs(far_paper(*FOUR_HUNDRED[2]), None)

    def test_a_walk(self):
        self.assertEqual(far_paper(WALK, START), PAPER)
        self.assertEqual(far_paper(WALK, (0, "b.x.")), (5, 1, [QUICK[1], QUICK[3]], [((0, "b.x."), 0, None)]))

    def test_none(self):
        for game, standing in ((WALK, (1, "a..x")), (WALK, (0, "....")), (STUCK, (0, "..")), (ROUND, (0, "aa")),
                               (ROUND, (1, "cc")), (turned_round(WALK), (0, "a..x"))):
            self.assertIs(far_paper(game, standing), None)

    def test_told_lists_are_the_askers_own(self):
        for game, standing in ((WALK, START), (FORKED, START), FOUR_HUNDRED[1]):
            one, other = far_paper(game, standing), far_paper(game, standing)
            self.assertEqual(len({id(rows) for rows in one[2:] + other[2:]}), 4)
            one[2].clear()
            one[3].append("changed")
            self.assertEqual(repr(far_paper(game, standing)), repr(other))

    def test_handed_in_as_lists(self):
        self.assertEqual(repr(far_paper(listed(WALK), listed(START))), repr(PAPER))
        self.assertIs(shows_far(listed(WALK), listed(START), PAPER), True)
        self.assertIs(shows_far(listed(WALK), listed(START), listed(PAPER)), False)


class Most(unittest.TestCase):
    def test_one_more(self):
        for game, begin in ONE_MORE:
            refused(self, TooMany, 400, lambda: far_paper(game, begin))
            told = far_paper(game, begin, most=401)
            want = solve(game, [begin])[begin]
            self.assertEqual(told if told is None else told[:2], None if want[0] == 0 else want)

    def test_as_many_and_one_fewer(self):
        for game in asked_games(123, 20):
            begin = all_standings(game)[1]
            many = len(reach_of(game, [begin]))
            self.assertEqual(repr(far_paper(game, begin, most=many)), repr(far_paper(game, begin)))
            if many > 1:
                refused(self, TooMany, many - 1, lambda: far_paper(game, begin, most=many - 1))

    def test_worth_nought_is_refused_too(self):
        refused(self, TooMany, 3, lambda: far_paper(ROUND, (0, "aa"), most=3))
        self.assertIs(far_paper(ROUND, (1, "cc"), most=1), None)

    def test_by_name_alone(self):
        with self.assertRaises(TypeError):
            far_paper(WALK, START, 400)
        self.assertEqual(far_paper(game=WALK, standing=START, most=8), PAPER)


class Clauses(unittest.TestCase):
    """Each clause: what fails just by it."""

    def stands(self, thing, *clauses, standing=START, game=WALK):
        self.assertEqual(broken_far(game, standing, thing), set(clauses), thing)
        self.assertIs(shows_far(game, standing, thing), not clauses, thing)

    def slow(self, slow, *clauses):
        self.stands((5, 3, QUICK, slow), *clauses)

    def quick(self, quick, *clauses):
        self.stands((5, 3, quick, SLOW), *clauses)

    def both(self, thing, *clauses):
        self.stands(thing, *clauses)
        self.stands(as_side_one(thing), *clauses, standing=other_turn(START), game=turned_round(WALK))

    def test_it_stands(self):
        self.both(PAPER)

    def test_by_names(self):
        self.assertIs(shows_far(game=WALK, standing=START, thing=PAPER), True)
        self.assertIs(shows_far(WALK, START, thing=None), False)

    def test_no_tuple_of_four(self):
        for thing in (list(PAPER), PAPER[:3], PAPER + (None,), (), None, 5, "", PAPER[1:]):
            self.stands(thing, "paper")

    def test_the_worth(self):
        for worth in (0, True, None, "5", (5,)):
            self.stands((worth, *PAPER[1:]), "worth")
        self.both((6, *PAPER[1:]), "quick: worth of an ended one")
        # Within two moves less can't be had either, so that any worth to 5 has this paper.
        for worth in range(1, 6):
            self.both((worth, *PAPER[1:]))
        for worth in range(-12, 0):
            self.assertIs(shows_far(WALK, START, (worth, *PAPER[1:])), False)

    def test_the_worth_in_slow(self):
        # An end that is as much as the worth is too much, for it's within so many moves.
        self.stands((5, 3, QUICK, LATE), game=FORKED)
        self.stands((2, 3, QUICK, LATE), "slow: worth of an ended one", game=FORKED)
        self.stands((1, 3, QUICK, LATE), "slow: worth of an ended one", game=FORKED)
        self.stands((3, 3, QUICK, LATE), game=FORKED)

    def test_far(self):
        for far in (True, None, "3", (3,)):
            self.stands((5, far, QUICK, SLOW), "far")
        self.both((5, 2, QUICK, SLOW), "quick: has it", "slow: has it")
        self.both((5, 4, QUICK, SLOW), "quick: has it", "slow: has it")
        later = [(*row[:2], row[2] + 1) for row in QUICK]
        self.both((5, 3, later, SLOW), "quick: has it")
        self.both((5, 4, later, SLOW), "slow: has it")

    def test_a_truth_for_far(self):
        told = far_paper(WALK, (0, "b.x."))
        self.stands(told, standing=(0, "b.x."))
        self.stands((5, True, *told[2:]), "far", standing=(0, "b.x."))

    def test_far_nought(self):
        quick = [((0, "b.x."), (2, "x.", ".x"), 0), ((1, "b..x"), None, 0)]
        self.stands((5, 0, quick, []), "quick: falling", "slow: has it", standing=(0, "b.x."))

    def test_quick(self):
        self.quick(tuple(QUICK), "quick: list")
        self.quick(QUICK[::-1], "quick: rising")
        self.quick(QUICK[1:], "quick: has it")
        self.quick([], "quick: has it")
        self.quick(QUICK[:3], "quick: behind")
        self.quick(swapped(QUICK, 2, ((1, "a.x."), None, 1)), "quick: falling")
        self.quick(swapped(QUICK, 1, ((0, "b.x."), None, 1)), "quick: choice")
        self.quick(swapped(QUICK, 2, ((1, "a.x."), (0, "a", "b"), 2)), "quick: choice of the other side")
        self.quick(swapped(QUICK, 3, ((1, "b..x"), None, None)), "quick: left by ends")

    def test_slow_kinds(self):
        self.slow(tuple(SLOW), "slow: list")
        self.slow(None, "slow: list")
        for at in range(3):
            standing, left, choice = SLOW[at]
            for row in (list(SLOW[at]), SLOW[at][:2], SLOW[at] + (None,), (), None):
                self.slow(swapped(SLOW, at, row), "slow: tuple")
            for one in (list(standing), (bool(standing[0]), standing[1]), standing[:1], None, (2, "ax.."), (0, "ax..."),
                        (0, "cx..")):
                self.assertEqual(broken_far(WALK, START, (5, 3, QUICK, swapped(SLOW, at, (one, left, choice)))) - {
                    "slow: has it"}, {"slow: standing"})
                self.assertIs(shows_far(WALK, START, (5, 3, QUICK, swapped(SLOW, at, (one, left, choice)))), False)
            for number in (None, -1, "0", (left,), bool(left) if left < 2 else "2"):
                self.assertIs(shows_far(WALK, START, (5, 3, QUICK, swapped(SLOW, at, (standing, number, choice)))), False)
        self.slow(swapped(SLOW, 1, ((0, "b.x."), False, None)), "slow: left")
        self.slow(swapped(SLOW, 2, ((1, "a.x."), True, (0, "a", "b"))), "slow: left")
        # One that nothing leads to, with a left below 0.
        self.slow([((0, "...."), -1, None)] + SLOW, "slow: left")

    def test_slow_rises(self):
        for at in range(3):
            self.slow(SLOW[:at + 1] + SLOW[at:], "slow: rising")
        self.slow(SLOW[::-1], "slow: rising")
        self.slow([SLOW[1], SLOW[0], SLOW[2]], "slow: rising")
        # One standing with several lefts is no pair twice.
        self.slow([((0, "ax.."), 0, None)] + SLOW)
        self.slow([SLOW[0], ((0, "ax.."), 0, None)] + SLOW[1:], "slow: rising")

    def test_slow_of_one_pair_with_two_choices(self):
        game = walk(((2, "..x", 5),))[:4] + (((("x.", ".x"),), (("a", "b"), ("a", "x"), ("b", "a"))), ((2, "..x", 5),), (0, 0))
        quick = full_far(game, START, 5)
        self.stands(quick, game=game)
        rows = quick[3]
        at = [row[:2] for row in rows].index(((1, "a.x."), 1))
        doubled = rows[:at] + [((1, "a.x."), 1, (0, "a", "b"))] + [((1, "a.x."), 1, (0, "a", "x"))] + rows[at + 1:]
        self.assertIn("slow: rising", broken_far(game, START, (*quick[:3], doubled)))
        self.assertIs(shows_far(game, START, (*quick[:3], doubled)), False)

    def test_slow_of_ended_ones(self):
        # With any left; its worth is less, its choice None.
        ended = (0, "....")
        self.assertEqual(end_of(WALK, ended), 0)
        for left in (0, 1, 7, 1000):
            self.slow([(ended, left, None)] + SLOW)
            for choice in ((), 0, False, (0, "a", "b")):
                self.slow([(ended, left, choice)] + SLOW, "slow: choice of an ended one")
        for left in (0, 1, 7):
            self.slow(SLOW + [((1, "b..x"), left, None)], "slow: worth of an ended one")

    def test_slow_with_none_left(self):
        for choice in ((2, "x.", ".x"), (), False, 0):
            self.slow(swapped(SLOW, 1, ((0, "b.x."), 0, choice)), "slow: choice with none left")
        self.slow(SLOW[:2] + [((1, "a.x."), 0, None)] + SLOW[2:])
        self.slow(SLOW[:2] + [((1, "a.x."), 0, (0, "a", "b"))] + SLOW[2:], "slow: choice with none left")

    def test_slow_on_the_gaining_sides_turn(self):
        for choice in ((1, "x.", ".x"), (), False, 0):
            self.both((5, 3, QUICK, swapped(SLOW, 0, (START, 2, choice))), "slow: choice of the gaining side")
        self.both((5, 3, QUICK, SLOW[:2]), "slow: behind")
        # Behind each of its moves: here the one to a lesser end is left out.
        self.stands((5, 3, QUICK, LATE[:2] + LATE[3:]), "slow: behind", game=FORKED)
        # With left one less, neither more nor less than that.
        at = swapped(LATE, 2, ((1, "a..."), 2, None))
        self.stands((5, 3, QUICK, at), "slow: behind", game=FORKED)
        self.stands((5, 3, QUICK, swapped(LATE, 2, ((1, "a..."), 0, None))), "slow: behind", game=FORKED)

    def test_slow_on_the_other_sides_turn(self):
        for choice in (None, (), (1, "a", "b"), (0, "b", "a"), (0, "a", "b", 0), [0, "a", "b"], (False, "a", "b"),
                       (2, "x.", ".x"), "0:a>b"):
            self.both((5, 3, QUICK, swapped(SLOW, 2, ((1, "a.x."), 1, choice))), "slow: choice")
        self.both((5, 3, QUICK, [SLOW[0], SLOW[2]]), "slow: behind")
        # Behind the choice with another left.
        self.slow(SLOW + [((1, "ax.."), 2, (0, "a", "b"))], "slow: behind")
        self.slow(SLOW + [((1, "bx.."), 3, (0, "b", "a"))])

    def test_slow_has_it(self):
        self.both((5, 3, QUICK, SLOW[1:]), "slow: has it")
        self.both((5, 3, QUICK, []), "slow: has it")
        self.slow([((0, "ax.."), 0, None)] + SLOW[1:], "slow: has it")

    def test_ended_ones(self):
        for game in (WALK, turned_round(WALK), STUCK):
            for standing in all_standings(game):
                if end_of(game, standing) is not None:
                    for worth in (-5, 5, 2):
                        for far in (0, 1):
                            thing = (worth, far, [(standing, None, far)], [(standing, far - 1, None)])
                            self.assertIs(shows_far(game, standing, thing), False)
                            self.assertIs(shows_far(game, standing, (worth, far, [(standing, None, far)], [])), False)

    def test_another_standing(self):
        for standing in all_standings(WALK):
            self.assertIs(shows_far(WALK, standing, PAPER), standing == START)

    def test_a_lesser_worth(self):
        lesser = (2, 1, [((0, "ax.."), (1, "x.", ".."), 1), ((1, "a..."), None, 0)], [((0, "ax.."), 0, None)])
        self.stands(lesser, game=FORKED)
        self.assertEqual(far_paper(FORKED, START)[:2], (5, 3))
        self.stands((1, *lesser[1:]), game=FORKED)
        self.stands((3, *lesser[1:]), "quick: worth of an ended one", game=FORKED)
        turned = as_side_one(lesser)
        self.stands(turned, game=turned_round(FORKED), standing=other_turn(START))

    def test_all_worths_that_can_be_had(self):
        seen = 0
        for game in small_games(124, 30):
            for standing in all_standings(game)[::3]:
                if end_of(game, standing) is not None:
                    continue
                for worth in (-9, -5, -2, -1, 1, 2, 5, 9):
                    thing = full_far(game, standing, worth)
                    if thing is not None:
                        self.stands(thing, game=game, standing=standing)
                        told = worth_of(game, standing)
                        self.assertTrue(told[0] >= worth if worth > 0 else told[0] <= worth)
                        seen += told[0] != worth
        self.assertTrue(seen > 50)

    def test_things_of_other_kinds(self):
        for thing in OTHERS + [(5, 3, [], []), (5, 3, None, None), (5, 3, [None], [None]), (5, 3, (), ())]:
            self.assertIs(shows_far(WALK, START, thing), False, thing)

    def test_what_is_asked_of_stays(self):
        for thing in (PAPER, list(PAPER), (5, 3, QUICK[::-1], [[]])):
            ahead = copy.deepcopy(thing)
            shows_far(WALK, START, thing)
            self.assertEqual(repr(thing), repr(ahead))


class Spoilt(unittest.TestCase):
    """Papers spoilt in many ways: the judge takes just those that stand by the one written here."""

    def spoilt_slow(self, dice, game, slow):
        slow = list(slow)
        at = dice.randrange(len(slow))
        standing, left, choice = slow[at]
        way = dice.randrange(7)
        if way == 0:
            del slow[at]
        elif way == 1:
            slow.insert(dice.randrange(len(slow) + 1), slow[at])
        elif way == 2:
            slow[at] = (standing, left, dice.choice(moves_of(game, standing) + [None]))
        elif way == 3:
            slow[at] = (standing, left + dice.choice([-1, 1]), choice)
        elif way == 4:
            pair = (dice.choice(all_standings(game)), dice.randrange(left + 1))
            if pair not in [row[:2] for row in slow]:
                row = (*pair, dice.choice(moves_of(game, pair[0]) + [None, None]))
                slow = sorted(slow + [row], key=lambda one: one[:2])
        elif way == 5:
            slow[at] = dice.choice([list(slow[at]), (list(standing), left, choice), (standing, bool(left), choice)])
        return slow

    def test_spoilt(self):
        dice = random.Random(125)
        seen = {True: 0, False: 0}
        for game in asked_games(126, 60):
            for number in range(25):
                standing = dice.choice(all_standings(game))
                told = far_paper(game, standing)
                if told is None:
                    continue
                worth, far, quick, slow = told
                thing = (worth + dice.choice([0, 0, 0, -1, 1]), far + dice.choice([0, 0, 0, 0, -1, 1]), quick,
                         self.spoilt_slow(dice, game, slow))
                want = broken_far(game, standing, thing) == set()
                self.assertIs(shows_far(game, standing, thing), want, (game, standing, thing))
                seen[want] += 1
        self.assertTrue(min(seen.values()) > 20, seen)


if __name__ == "__main__":
    unittest.main()
