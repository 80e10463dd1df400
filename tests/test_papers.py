import copy
import random
import unittest

from solvedplay.errors import TooMany
from solvedplay.papers import paper, shows_rows, shows_worth
from solvedplay.solving import worth_of
from tests.asking import (OTHERS, ROUND, STUCK, TAKING, WALK, asked_games, other_turn, refused, small_games, swapped,
                          turned_round)
from tests.judges import broken_paper, broken_rows, full_rows
from tests.oracle import all_standings, end_of, game_of, listed, moves_of, reach_of, solve
from tests.samples import FOUR_HUNDRED, ONE_MORE

# By ends, for side 0 and 5, from (0, "ax.."), by the two moves of x.
ENDING = [((0, "ax.."), (1, "x.", ".x"), 3), ((0, "b.x."), (2, "x.", ".x"), 1), ((1, "a.x."), None, 2),
          ((1, "b..x"), None, 0)]
# By holding, for side 0 and 0: it turns over, rather than end at a loss.
HOLDING = [((0, "aa"), (0, "a", "b"), None), ((0, "bb"), (0, "b", "a"), None), ((1, "ab"), None, None),
           ((1, "ba"), None, None)]
# By holding, for side 1 and 5: what side 0 can't have more of.
HELD = [((0, "ax.."), None, None), ((0, "b.x."), None, None), ((1, "a.x."), (0, "a", "b"), None),
        ((1, "b..x"), None, None)]


def as_side_one(rows):
    """The same rows in the game turned round."""
    return sorted([(other_turn(standing), choice, left) for standing, choice, left in rows], key=lambda row: row[0])


class Told(unittest.TestCase):
    def check(self, game, standing, want):
        told = paper(game, standing)
        self.assertEqual(told[0], want, (game, standing))
        self.assertEqual(broken_paper(game, standing, told), set(), (game, standing, told))
        self.assertIs(shows_worth(game, standing, told), True, (game, standing, told))
        self.assertEqual([type(part) for part in (told, *told)], [tuple, int, list, list])
        for row in told[1] + told[2]:
            self.assertTrue(row[2] is None or row[2] <= 400)
        return told

    def test_every_standing_of_several_games(self):
        seen = set()
        for game in asked_games(111, 40):
            worths = solve(game, all_standings(game))
            for standing in all_standings(game):
                worth, far = worths[standing]
                self.assertEqual(worth_of(game, standing)[0], worth)
                self.check(game, standing, worth)
                seen.add((game[1], (worth > 0) - (worth < 0), "ended" if far == 0 else "none" if far is None else "some"))
        wanted = {(shape, sign, far) for shape in ("line", "ring") for sign, far in
                  ((1, "ended"), (0, "ended"), (-1, "ended"), (1, "some"), (-1, "some"), (0, "none"))}
        self.assertEqual(wanted, seen)

    def test_longer_games(self):
        for number, game in enumerate(asked_games(112, 25, 4)):
            for standing in random.Random(number).sample(all_standings(game), 6):
                self.check(game, standing, solve(game, [standing])[standing][0])

    def test_four_hundred(self):
        for (game, begin), worth in zip(FOUR_HUNDRED, (3, -2, 0)):
            self.check(game, begin, worth)
            self.check(turned_round(game), other_turn(begin), -worth)

    def test_left_of_a_long_way(self):
        game = game_of(".x", 7, ((("x", "."),), (("x", "."),)), (), (-1, 1))
        told = self.check(game, (0, "xxxxxxx"), 1)
        self.assertIn(((0, "xxxxxxx"), 7), [(row[0], row[2]) for row in told[1]])

    def test_ended_ones(self):
        self.assertEqual(paper(STUCK, (0, "..")), (0, [((0, ".."), None, None)], [((0, ".."), None, None)]))
        told = paper(TAKING, (1, "...."))
        self.assertEqual(told[0], 4)
        self.assertEqual([row[:2] for row in told[1] + told[2]], [((1, "...."), None)] * 2)

    def test_round_for_ever(self):
        told = self.check(ROUND, (0, "aa"), 0)
        self.assertTrue(all(left is None for standing, choice, left in told[1] + told[2]))

    def test_lists_are_not_one_and_the_same(self):
        for game in (STUCK, ROUND, WALK):
            for standing in all_standings(game)[::9]:
                one, other = paper(game, standing), paper(game, standing)
                self.assertEqual(len({id(rows) for rows in one[1:] + other[1:]}), 4)
                one[1].append("changed")
                self.assertEqual(paper(game, standing), other)
                self.assertEqual(broken_paper(game, standing, other), set())
                self.assertEqual(one[2], other[2])

    def test_handed_in_as_lists(self):
        for standing in all_standings(TAKING)[::5]:
            told = paper(TAKING, standing)
            self.assertEqual(repr(paper(listed(TAKING), listed(standing))), repr(told))
            self.assertIs(shows_worth(listed(TAKING), listed(standing), told), True)
            self.assertIs(shows_rows(listed(TAKING), 0, told[0], told[1]), True)

    def test_what_was_told_is_for_others_on_it_too(self):
        # Rows have more standings than the one; with their worth they are papers of these as well.
        for game in small_games(113, 10):
            for standing in all_standings(game)[::4]:
                told = paper(game, standing)
                for other in all_standings(game):
                    has = all(other in [row[0] for row in rows] for rows in told[1:])
                    self.assertEqual(shows_worth(game, other, told), has)
                    if has:
                        self.assertEqual(worth_of(game, other)[0], told[0])


class Most(unittest.TestCase):
    def test_one_more(self):
        for game, begin in ONE_MORE:
            refused(self, TooMany, 400, lambda: paper(game, begin))
            self.assertEqual(broken_paper(game, begin, paper(game, begin, most=401)), set())

    def test_as_many_and_one_fewer(self):
        for game in asked_games(114, 20):
            begin = all_standings(game)[1]
            many = len(reach_of(game, [begin]))
            self.assertEqual(repr(paper(game, begin, most=many)), repr(paper(game, begin)))
            if many > 1:
                refused(self, TooMany, many - 1, lambda: paper(game, begin, most=many - 1))

    def test_by_name_alone(self):
        with self.assertRaises(TypeError):
            paper(STUCK, (0, ".."), 400)
        self.assertEqual(paper(game=STUCK, standing=(0, ".."), most=1), paper(STUCK, (0, "..")))


class Rows(unittest.TestCase):
    """Each clause of the rows: what fails just by it."""

    def stands(self, game, side, worth, thing, clauses):
        self.assertEqual(broken_rows(game, side, worth, thing), clauses, thing)
        self.assertIs(shows_rows(game, side, worth, thing), clauses == set(), thing)

    def ending(self, rows, *clauses):
        self.stands(WALK, 0, 5, rows, set(clauses))

    def ending_for_both(self, rows, *clauses):
        self.ending(rows, *clauses)
        self.stands(turned_round(WALK), 1, -5, as_side_one(rows), set(clauses))

    def holding(self, rows, *clauses):
        self.stands(ROUND, 0, 0, rows, set(clauses))

    def held(self, rows, *clauses):
        self.stands(WALK, 1, 5, rows, set(clauses))

    def test_they_stand(self):
        self.ending(ENDING)
        self.holding(HOLDING)
        self.held(HELD)
        self.stands(turned_round(WALK), 1, -5, as_side_one(ENDING), set())
        self.stands(turned_round(ROUND), 1, 0, as_side_one(HOLDING), set())
        self.stands(turned_round(WALK), 0, -5, as_side_one(HELD), set())

    def test_none_stand_too(self):
        for game in (WALK, ROUND, STUCK):
            for side in (0, 1):
                for worth in range(-9, 10):
                    self.stands(game, side, worth, [], set())
                    self.assertIs(shows_rows(game, side, worth, ()), False)

    def test_any_left_that_falls(self):
        for lefts in ((30, 10, 20, 0), (400, 5, 9, 3), (1000, 10, 11, 9)):
            self.ending_for_both([(standing, choice, left) for (standing, choice, old), left in zip(ENDING, lefts)])

    def test_a_list_for_a_tuple(self):
        self.ending(tuple(ENDING), "list")
        for at in range(4):
            standing, choice, left = ENDING[at]
            self.ending(swapped(ENDING, at, list(ENDING[at])), "tuple")
            self.ending(swapped(ENDING, at, (list(standing), choice, left)), "standing")
            if choice is not None:
                self.ending(swapped(ENDING, at, (standing, list(choice), left)), "choice")

    def test_more_things_and_fewer(self):
        for at in range(4):
            for row in (ENDING[at] + (None,), ENDING[at][:2], (), None):
                self.ending(swapped(ENDING, at, row), "tuple")

    def test_a_truth_for_a_number(self):
        for at in range(4):
            (side, row), choice, left = ENDING[at]
            self.ending(swapped(ENDING, at, ((bool(side), row), choice, left)), "standing")
        self.ending_for_both(swapped(ENDING, 1, (*ENDING[1][:2], True)), "left by ends")
        self.ending_for_both(swapped(ENDING, 3, (*ENDING[3][:2], False)), "left by ends")
        self.ending_for_both(swapped(ENDING, 0, (ENDING[0][0], (True, "x.", ".x"), 3)), "choice")
        self.holding(swapped(HOLDING, 0, ((0, "aa"), (False, "a", "b"), None)), "choice")

    def test_no_standing_of_the_game(self):
        for standing in ((0, "ax..."), (0, "ax."), (0, "cx.."), (2, "ax.."), (-1, "ax.."), (0, "ax..", 0), (0,), ("0", "ax.."),
                         (0, 5), None, "ax..", ("ax..", 0)):
            self.ending(swapped(ENDING, 0, (standing, (1, "x.", ".x"), 3)), "standing")

    def test_twice_and_not_rising(self):
        for at in range(4):
            self.ending(ENDING[:at + 1] + ENDING[at:], "rising")
            self.holding(HOLDING[:at + 1] + HOLDING[at:], "rising")
        self.ending(ENDING[::-1], "rising")
        self.ending([ENDING[1], ENDING[0]] + ENDING[2:], "rising")
        self.holding(HOLDING[2:] + HOLDING[:2], "rising")
        # Another choice, another left: still one standing twice.
        self.holding([HOLDING[0], ((0, "aa"), (1, "a", "b"), None)] + HOLDING[1:], "rising")
        self.ending(ENDING[:3] + [((1, "b..x"), None, 0), ((1, "b..x"), None, 1)], "rising", "falling")

    def test_left(self):
        for at, lefts in ((3, (-1, None, "0", (0,), [0])), (0, (None, "3", (3,))), (2, (None, "2"))):
            for left in lefts:
                self.ending_for_both(swapped(ENDING, at, (*ENDING[at][:2], left)), "left by ends")
        for at in range(4):
            for left in (0, 1, -1, "-", False, ()):
                self.holding(swapped(HOLDING, at, (*HOLDING[at][:2], left)), "left by holding")
                self.held(swapped(HELD, at, (*HELD[at][:2], left)), "left by holding")

    def test_left_as_much_as_behind(self):
        self.ending_for_both(swapped(ENDING, 0, (*ENDING[0][:2], 2)), "falling")
        self.ending_for_both(swapped(ENDING, 0, (*ENDING[0][:2], 1)), "falling")
        self.ending_for_both(swapped(ENDING, 2, (*ENDING[2][:2], 1)), "falling")
        self.ending_for_both(swapped(ENDING, 1, (*ENDING[1][:2], 0)), "falling")
        self.ending_for_both(swapped(ENDING, 3, (*ENDING[3][:2], 1)), "falling")

    def test_a_choice_that_is_no_move(self):
        for choice in ((0, "x.", ".x"), (1, ".x", "x."), (1, "x.", "x."), (1, "x.", ".x", 0), (1, "x."), (), ("1", "x.", ".x"),
                       (0, "a", "b"), 1, "1:x.>.x", (5, "x.", ".x"), (-3, "x.", ".x"), None, False):
            self.ending_for_both(swapped(ENDING, 0, (ENDING[0][0], choice, 3)), "choice")
        for choice in ((0, "aa", "bb"), (2, "a", "b"), None):
            self.holding(swapped(HOLDING, 0, ((0, "aa"), choice, None)), "choice")
        self.held(swapped(HELD, 2, ((1, "a.x."), None, None)), "choice")
        self.held(swapped(HELD, 2, ((1, "a.x."), (2, "x.", ".x"), None)), "choice")

    def test_a_choice_where_none_is_due(self):
        self.ending_for_both(swapped(ENDING, 2, ((1, "a.x."), (0, "a", "b"), 2)), "choice of the other side")
        for choice in ((), False, 0, "", "-", [], (2, "x.", ".x")):
            self.ending_for_both(swapped(ENDING, 2, ((1, "a.x."), choice, 2)), "choice of the other side")
            self.ending_for_both(swapped(ENDING, 3, ((1, "b..x"), choice, 0)), "choice of an ended one")
        self.holding(swapped(HOLDING, 2, ((1, "ab"), (0, "a", "b"), None)), "choice of the other side")
        self.held(swapped(HELD, 0, ((0, "ax.."), (1, "x.", ".x"), None)), "choice of the other side")
        self.held(swapped(HELD, 3, ((1, "b..x"), (0, "b", "a"), None)), "choice of an ended one")

    def test_a_row_out(self):
        for at, clauses in ((0, ()), (1, ("behind",)), (2, ("behind",)), (3, ("behind",))):
            self.ending_for_both(ENDING[:at] + ENDING[at + 1:], *clauses)
            self.held(HELD[:at] + HELD[at + 1:], *clauses)
        for at in range(4):
            self.stands(ROUND, 0, 0, HOLDING[:at] + HOLDING[at + 1:], {"behind"})

    def test_a_move_to_what_has_no_row(self):
        # The other choice is a move as well, but leads elsewhere.
        self.holding(swapped(HOLDING, 0, ((0, "aa"), (0, "aa", "cc"), None)), "behind")
        # Behind one of two moves of the other side there's none.
        game = game_of("abc", 2, ((("a", "b"), ("b", "a")), (("a", "b"), ("a", "c"), ("b", "a"))))
        self.stands(game, 0, 0, HOLDING, {"behind"})

    def test_worth_of_an_ended_one(self):
        for worth in range(1, 6):
            self.stands(WALK, 0, worth, ENDING, set())
        for worth in range(6, 10):
            self.stands(WALK, 0, worth, ENDING, {"worth of an ended one"})
        for worth in range(5, 10):
            self.stands(WALK, 1, worth, HELD, set())
        for worth in range(0, 5):
            self.stands(WALK, 1, worth, HELD, {"worth of an ended one"})
        losing = [((0, "aa"), (0, "aa", "cc"), None), ((1, "cc"), None, None)]
        for worth in range(-9, 1):
            self.stands(ROUND, 0, worth, losing, set() if worth <= -7 else {"worth of an ended one"})

    def test_the_worth_tells_by_what(self):
        # By ends rows have lefts, by holding none, for the one side as for the other.
        self.stands(WALK, 0, 0, ENDING, {"left by holding"})
        self.stands(WALK, 0, -1, ENDING, {"left by holding"})
        self.stands(ROUND, 0, 1, HOLDING, {"left by ends"})
        self.stands(turned_round(WALK), 1, 0, as_side_one(ENDING), {"left by holding"})
        self.stands(turned_round(ROUND), 1, -1, as_side_one(HOLDING), {"left by ends"})
        # A round has no lefts that fall.
        for lefts in ((1, 1, 1, 1), (4, 2, 3, 1)):
            rows = [(*row[:2], left) for row, left in zip(HOLDING, lefts)]
            self.stands(ROUND, 0, 1, rows, {"falling"})

    def test_for_the_other_side(self):
        self.assertIs(shows_rows(WALK, 1, 5, ENDING), False)
        self.assertIs(shows_rows(WALK, 0, 5, HELD), False)
        self.assertIs(shows_rows(ROUND, 1, 0, HOLDING), False)

    def test_things_of_other_kinds(self):
        for thing in OTHERS:
            for side, worth in ((0, 5), (0, 0), (1, 5), (1, -5)):
                self.assertIs(shows_rows(WALK, side, worth, thing), thing == [] and type(thing) is list, thing)

    def test_by_names(self):
        self.assertIs(shows_rows(game=WALK, side=0, worth=5, thing=ENDING), True)
        self.assertIs(shows_rows(WALK, 0, worth=6, thing=ENDING), False)
        self.assertIs(shows_worth(game=WALK, standing=(0, "ax.."), thing=(5, ENDING, HELD)), True)

    def test_what_is_asked_of_stays(self):
        for thing in (ENDING, list(reversed(ENDING)), [list(row) for row in ENDING], [[[]]]):
            ahead = copy.deepcopy(thing)
            shows_rows(WALK, 0, 5, thing)
            shows_worth(WALK, (0, "ax.."), (5, thing, thing))
            self.assertEqual(repr(thing), repr(ahead))

    def test_rows_of_all_that_are_reached(self):
        for game in small_games(115, 12):
            found = all_standings(game)
            for side in (0, 1):
                for worth in range(-9, 10, 3):
                    rows = full_rows(game, found, side, worth)
                    self.stands(game, side, worth, rows, set())


class Papers(unittest.TestCase):
    def stands(self, standing, thing, *clauses):
        self.assertEqual(broken_paper(WALK, standing, thing), set(clauses), thing)
        self.assertIs(shows_worth(WALK, standing, thing), not clauses, thing)

    def test_it_stands(self):
        self.stands((0, "ax.."), (5, ENDING, HELD))
        self.assertIs(shows_worth(ROUND, (0, "aa"), (0, HOLDING, full_rows(ROUND, all_standings(ROUND), 1, 0))), True)

    def test_no_tuple_of_three(self):
        for thing in ([5, ENDING, HELD], (5, ENDING), (5, ENDING, HELD, HELD), (), None, (ENDING, HELD, 5)[:2]):
            self.stands((0, "ax.."), thing, "paper")

    def test_the_worth(self):
        for worth in (True, None, "5", (5,), [5]):
            self.stands((0, "ax.."), (worth, ENDING, HELD), "worth")
        self.stands((0, "ax.."), (4, ENDING, HELD), "most: worth of an ended one")
        self.stands((0, "ax.."), (6, ENDING, HELD), "least: worth of an ended one")
        for worth in range(-10, 11):
            self.assertIs(shows_worth(WALK, (0, "ax.."), (worth, ENDING, HELD)), worth == 5)

    def test_a_truth_for_the_worth(self):
        game = game_of(".x", 2, stuck=(1, 0))
        for worth, side in ((1, 0), (0, 1)):
            told = paper(game, (side, ".."))
            self.assertEqual(told[0], worth)
            self.assertIs(shows_worth(game, (side, ".."), told), True)
            self.assertIs(shows_worth(game, (side, ".."), (bool(worth), *told[1:])), False)

    def test_for_another_standing(self):
        for standing in all_standings(WALK):
            has = standing in [row[0] for row in ENDING]
            self.stands(standing, (5, ENDING, HELD), *([] if has else ["least: has it", "most: has it"]))
        self.stands((0, "ax.."), (5, ENDING[1:], HELD), "least: has it")
        self.stands((0, "ax.."), (5, ENDING, HELD[1:]), "most: has it")

    def test_no_rows(self):
        self.stands((0, "ax.."), (5, [], HELD), "least: has it")
        self.stands((0, "ax.."), (5, ENDING, []), "most: has it")
        self.stands((0, "ax.."), (5, [], []), "least: has it", "most: has it")

    def test_tuples_for_lists(self):
        self.stands((0, "ax.."), (5, tuple(ENDING), HELD), "least: list")
        self.stands((0, "ax.."), (5, ENDING, tuple(HELD)), "most: list")

    def test_rows_for_the_other_side(self):
        self.assertIs(shows_worth(WALK, (0, "ax.."), (5, HELD, ENDING)), False)
        self.assertIs(shows_worth(WALK, (0, "ax.."), (5, HELD, HELD)), False)
        self.assertIs(shows_worth(WALK, (0, "ax.."), (5, ENDING, ENDING)), False)

    def test_things_of_other_kinds(self):
        for thing in OTHERS:
            for standing in ((0, "ax.."), (1, "....")):
                self.assertIs(shows_worth(WALK, standing, thing), False, thing)

    def test_by_one_otherwise(self):
        for game in asked_games(116, 12):
            for standing in all_standings(game)[::3]:
                worth, least, most = paper(game, standing)
                for other in (worth - 1, worth + 1, -worth):
                    told = (other, least, most)
                    self.assertIs(shows_worth(game, standing, told), other == worth)
                    # With rows that are the best for it.
                    if -9 <= other <= 9:
                        found = reach_of(game, [standing])
                        told = (other, full_rows(game, found, 0, other), full_rows(game, found, 1, other))
                        self.assertIs(shows_worth(game, standing, told), other == worth)


class Spoilt(unittest.TestCase):
    """Papers spoilt in many ways: the judge takes just those that stand by the one written here."""

    def spoilt(self, dice, game, rows):
        rows = list(rows)
        if not rows:
            return rows
        at = dice.randrange(len(rows))
        standing, choice, left = rows[at]
        way = dice.randrange(9)
        if way == 0:
            del rows[at]
        elif way == 1:
            rows.insert(dice.randrange(len(rows) + 1), rows[at])
        elif way == 2:
            other = dice.choice(all_standings(game))
            if other not in [row[0] for row in rows]:
                choices = moves_of(game, other) + [None]
                rows = sorted(rows + [(other, dice.choice(choices), left)], key=lambda row: row[0])
        elif way == 3:
            rows[at] = (standing, dice.choice(moves_of(game, standing) + [None]), left)
        elif way == 4:
            rows[at] = (standing, choice, dice.choice([None, 0, 1, 2, 3, 5, True, -1]))
        elif way == 5 and left is not None:
            rows[at] = (standing, choice, left + dice.choice([-1, 1, 2, 7]))
        elif way == 6:
            rows[at] = dice.choice([list(rows[at]), (list(standing), choice, left), (standing, listed(choice), left),
                                    ((bool(standing[0]), standing[1]), choice, left)])
        elif way == 7 and choice is not None:
            rows[at] = (standing, (dice.choice([bool(choice[0]), choice[0] + 1, -1]), *choice[1:]), left)
        elif way == 8 and end_of(game, standing) is None:
            rows[at] = (other_turn(standing), choice, left)
        return rows

    def test_rows(self):
        dice = random.Random(117)
        seen = {True: 0, False: 0}
        for game in asked_games(118, 25):
            for number in range(40):
                told = paper(game, dice.choice(all_standings(game)))
                side = dice.randrange(2)
                rows = self.spoilt(dice, game, told[side + 1])
                if dice.randrange(3) == 0:
                    rows = self.spoilt(dice, game, [row for row in rows if type(row) is tuple and type(row[0]) is tuple])
                want = broken_rows(game, side, told[0], rows) == set()
                self.assertIs(shows_rows(game, side, told[0], rows), want, (game, side, told[0], rows))
                seen[want] += 1
        self.assertTrue(min(seen.values()) > 100)

    def test_papers(self):
        dice = random.Random(119)
        seen = {True: 0, False: 0}
        for game in asked_games(120, 20):
            for number in range(40):
                standing = dice.choice(all_standings(game))
                worth, least, most = paper(game, standing)
                least = self.spoilt(dice, game, least) if dice.randrange(2) else least
                most = self.spoilt(dice, game, most) if dice.randrange(2) else most
                thing = (worth + dice.choice([0, 0, 0, 1, -1]), least, most)
                want = broken_paper(game, standing, thing) == set()
                self.assertIs(shows_worth(game, standing, thing), want, (game, standing, thing))
                seen[want] += 1
                if want:
                    self.assertEqual(thing[0], worth)
        self.assertTrue(min(seen.values()) > 100)


if __name__ == "__main__":
    unittest.main()
