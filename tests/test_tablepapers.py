import copy
import random
import unittest

from solvedplay.solving import solved
from solvedplay.tablepapers import shows_solved
from tests.asking import (FORKED, OTHERS, ROUND, START, STUCK, WALK, asked_games, other_turn, small_games, swapped,
                          turned_round)
from tests.judges import broken_table
from tests.oracle import all_standings, behind, game_of, listed, reach_of, some_standings
from tests.samples import FOUR_HUNDRED

# A gain of side 0, on its turn and on the other one's.
TABLE = [((0, "ax.."), 5, 3), ((0, "b.x."), 5, 1), ((1, "a.x."), 5, 2), ((1, "b..x"), 5, 0)]
EVENS = [((0, "aa"), 0, None), ((0, "bb"), 0, None), ((1, "ab"), 0, None), ((1, "ba"), 0, None), ((1, "cc"), -7, 0)]


def as_side_one(table):
    return sorted([(other_turn(standing), -worth, left) for standing, worth, left in table], key=lambda row: row[0])


class Solved(unittest.TestCase):
    def stands(self, game, standings, thing, *clauses):
        self.assertEqual(broken_table(game, standings, thing), set(clauses), (game, standings, thing))
        self.assertIs(shows_solved(game, standings, thing), not clauses, (game, standings, thing))

    def walk(self, thing, *clauses):
        """Of a gain of side 0, and of the same of side 1."""
        self.stands(WALK, [START], thing, *clauses)
        self.stands(turned_round(WALK), [other_turn(START)], as_side_one(thing), *clauses)

    def test_what_solved_tells(self):
        for number, game in enumerate(asked_games(131, 60)):
            for begins in ([], all_standings(game), some_standings(number, game, 2)):
                self.stands(game, begins, solved(game, begins, most=600))

    def test_four_hundred(self):
        for game, begin in FOUR_HUNDRED:
            self.stands(game, [begin], solved(game, [begin]))

    def test_by_hand(self):
        self.walk(TABLE)
        self.stands(ROUND, [(0, "aa")], EVENS)
        self.stands(STUCK, [(0, "..")], [((0, ".."), 0, 0)])

    def test_by_names(self):
        self.assertIs(shows_solved(game=WALK, standings=[START], thing=TABLE), True)
        self.assertIs(shows_solved(WALK, standings=[START], thing=TABLE[1:]), False)

    def test_handed_in_as_lists_and_tuples(self):
        for standings in ([START], (START,), [list(START)], (list(START),), [START, START]):
            self.assertIs(shows_solved(listed(WALK), standings, TABLE), True)
            self.assertIs(shows_solved(listed(WALK), standings, TABLE[1:]), False)
        for thing in (tuple(TABLE), listed(TABLE), [list(row) for row in TABLE]):
            self.assertIs(shows_solved(listed(WALK), [START], thing), False)

    def test_no_rows(self):
        self.stands(WALK, [], [])
        self.stands(WALK, [START], [], "standings")
        self.assertIs(shows_solved(WALK, [], ()), False)

    def test_other_lefts_that_fall(self):
        for lefts in ((30, 10, 20, 0), (4, 2, 3, 1), (1000, 20, 400, 9)):
            self.walk([(standing, worth, left) for (standing, worth, old), left in zip(TABLE, lefts)])
        # Worth 0 may have any left, ended or not.
        for left in (0, 5, None, 1000):
            self.stands(ROUND, [(0, "aa")], [(*row[:2], left) if row[1] == 0 else row for row in EVENS])
            self.stands(STUCK, [(0, "..")], [((0, ".."), 0, left)])
        for game in small_games(132, 20):
            table = solved(game, all_standings(game))
            more = [(standing, worth, None if far is None else far * 3 + 2) for standing, worth, far in table]
            self.stands(game, all_standings(game), more)
            self.stands(game, all_standings(game), [row if row[1] else (*row[:2], 7) for row in more])

    def test_left_as_much_as_behind(self):
        for at, left in ((0, 2), (0, 1), (1, 0)):
            self.walk(swapped(TABLE, at, (*TABLE[at][:2], left)), "falling for the gain")
        self.walk(swapped(TABLE, 2, (*TABLE[2][:2], 1)), "falling for the loss")
        self.walk(swapped(TABLE, 3, (*TABLE[3][:2], 1)), "falling for the gain")

    def test_one_falls_for_the_gain_all_for_the_loss(self):
        # Two moves of either side, both to the same worth, one of them with more left.
        game = game_of("abcd", 2, ((("ad", "bd"), ("ad", "cd"), ("cd", "dc")), (("ad", "bd"), ("ad", "cd"))),
                       ((1, "bd", 3), (1, "dc", 3), (0, "bd", 3), (0, "cd", 3)))
        game = game[:5] + (tuple(sorted(game[5])), (0, 0))
        for one, other, want in ((0, 0, ()), (0, 9, ("falling for the loss",)), (9, 0, ("falling for the loss",)),
                                 (9, 9, ("falling for the loss",)), (4, 5, ("falling for the loss",)), (4, 4, ())):
            table = [((0, "bd"), 3, one), ((0, "cd"), 3, other), ((1, "ad"), 3, 5)]
            self.stands(game, [(1, "ad")], table, *want)
            self.stands(turned_round(game), [(0, "ad")], as_side_one(table), *want)
        game = game[:5] + (((1, "bd", 3), (1, "cd", 3)), (0, 0))
        for one, other, want in ((0, 0, ()), (0, 9, ()), (9, 0, ()), (9, 9, ("falling for the gain",)),
                                 (5, 5, ("falling for the gain",)), (4, 5, ()), (5, 4, ())):
            table = [((0, "ad"), 3, 5), ((1, "bd"), 3, one), ((1, "cd"), 3, other)]
            self.stands(game, [(0, "ad")], table, *want)
            self.stands(turned_round(game), [(1, "ad")], as_side_one(table), *want)

    def test_lefts_of_other_worths_are_no_matter(self):
        # The loss: one move ends at -1, the other at -3 with much left.
        game = game_of("abcd", 2, ((("ad", "bd"), ("ad", "cd")), ()), ((1, "bd", -1), (1, "cd", -3)))
        table = [((0, "ad"), -1, 1), ((1, "bd"), -1, 0), ((1, "cd"), -3, 50)]
        self.stands(game, [(0, "ad")], table)
        self.stands(turned_round(game), [(1, "ad")], as_side_one(table))
        self.stands(game, [(0, "ad")], [((0, "ad"), -1, 1), ((1, "bd"), -1, 1), ((1, "cd"), -3, 0)], "falling for the loss")

    def test_not_shut_under_moves(self):
        for at, want in ((1, ("behind",)), (2, ("behind",)), (3, ("behind",))):
            rows = TABLE[:at] + TABLE[at + 1:]
            self.assertTrue(set(want) <= broken_table(WALK, [START], rows))
            self.assertIs(shows_solved(WALK, [START], rows), False)
        # Just by that: the other move leads to the same.
        game = game_of("abcd", 2, ((("ad", "bd"), ("ad", "cd")), ()), ((1, "bd", 3), (1, "cd", 3)))
        self.stands(game, [(0, "ad")], [((0, "ad"), 3, 1), ((1, "bd"), 3, 0), ((1, "cd"), 3, 0)])
        self.stands(game, [(0, "ad")], [((0, "ad"), 3, 1), ((1, "bd"), 3, 0)], "behind")
        self.stands(game, [(0, "ad")], [((0, "ad"), 3, 1), ((1, "cd"), 3, 0)], "behind")
        self.stands(ROUND, [(0, "aa")], EVENS[:4], "behind")

    def test_standings_wanting(self):
        for at in range(4):
            for standings in ([TABLE[at][0]], [START, TABLE[at][0]], [TABLE[at][0], (0, "bx..")]):
                want = [] if (0, "bx..") not in standings else ["standings"]
                self.stands(WALK, standings, TABLE, *want)
        self.stands(WALK, [START], TABLE[1:2] + TABLE[3:], "standings")
        self.stands(WALK, [(0, "b.x.")], TABLE[1:2] + TABLE[3:])
        # More than are reached may be in it, where they are shut.
        more = sorted(TABLE + [((0, "...."), 0, 0)], key=lambda row: row[0])
        self.walk(more)

    def test_each_worth_by_one_otherwise(self):
        for game in [WALK, ROUND, turned_round(WALK)] + small_games(133, 15):
            begins = [START] if game in (WALK, turned_round(WALK)) else all_standings(game)
            table = solved(game, begins)
            for at in range(len(table)):
                standing, worth, far = table[at]
                for other in {worth - 1, worth + 1, -worth, 0} - {worth}:
                    for left in (far, 0, 7, None):
                        self.assertIs(shows_solved(game, begins, swapped(table, at, (standing, other, left))), False)

    def test_all_worths_the_other_way(self):
        for game in small_games(134, 40) + [WALK, FORKED]:
            table = solved(game, all_standings(game), most=600)
            turned = [(standing, -worth, left) for standing, worth, left in table]
            self.assertIs(shows_solved(game, all_standings(game), turned), turned == table)

    def test_all_worths_by_one_otherwise(self):
        # Of play without end all worths may be moved alike, but then lefts don't fall.
        table = [(standing, 1, 3) for standing, worth, left in EVENS[:4]]
        game = game_of("ab", 2, ROUND[4][1:] * 2)
        self.stands(game, [(0, "aa")], EVENS[:4])
        self.assertEqual(broken_table(game, [(0, "aa")], table), {"falling for the gain", "falling for the loss"})
        for worth in (-9, -1, 1, 9):
            for left in (0, 1, 5):
                table = [(standing, worth, left) for standing, old, none in EVENS[:4]]
                self.assertIs(shows_solved(game, [(0, "aa")], table), False)
        # Where they fall on one way, they don't on the way back.
        table = [((0, "aa"), 1, 4), ((0, "bb"), 1, 2), ((1, "ab"), 1, 3), ((1, "ba"), 1, 1)]
        self.assertIs(shows_solved(game, [(0, "aa")], table), False)

    def test_none_better_and_one_of_the_same(self):
        rules = (("ad", "bd"), ("ad", "cd"))
        game = game_of("abcd", 2, (rules, rules), ((0, "bd", 2), (0, "cd", 4), (1, "bd", 2), (1, "cd", 4)))
        for side in (0, 1):
            best = 4 if side == 0 else 2
            for worth in range(-9, 10):
                table = sorted([((side, "ad"), worth, 9), ((1 - side, "bd"), 2, 0), ((1 - side, "cd"), 4, 0)],
                               key=lambda row: row[0])
                self.assertIs(shows_solved(game, [(side, "ad")], table), worth == best)
                self.assertIs(shows_solved(turned_round(game), [(1 - side, "ad")], as_side_one(table)), worth == best)
        self.stands(game, [(0, "ad")], [((0, "ad"), 2, 9), ((1, "bd"), 2, 0), ((1, "cd"), 4, 0)], "none better")
        self.stands(game, [(0, "ad")], [((0, "ad"), 5, 9), ((1, "bd"), 2, 0), ((1, "cd"), 4, 0)], "one of the same")

    def test_worth_of_an_ended_one(self):
        for worth in range(-9, 10):
            want = [] if worth == 0 else ["worth of an ended one"]
            self.stands(STUCK, [(0, "..")], [((0, ".."), worth, 0)], *want)

    def test_kinds(self):
        for at in range(4):
            (side, row), worth, left = TABLE[at]
            for other in (list(TABLE[at]), TABLE[at][:2], TABLE[at] + (0,), (), None, ((side, row), (worth, left))):
                self.stands(WALK, [START], swapped(TABLE, at, other), "tuple")
            for standing in ([side, row], (bool(side), row), (side, row + "."), (side, row, 0), (2, row), None, row):
                self.stands(WALK, [], swapped(TABLE, at, (standing, worth, left)), "standing")
            for other in (None, "5", 10, -10, (5,), True):
                self.stands(WALK, [], swapped(TABLE, at, ((side, row), other, left)), "worth")
            for other in (None, -1, "0", (0,), False, True):
                self.stands(WALK, [], swapped(TABLE, at, ((side, row), worth, other)), "left")
        for left in (False, True, -1, "", ()):
            self.stands(ROUND, [], swapped(EVENS, 0, ((0, "aa"), 0, left)), "left")
        self.stands(ROUND, [], swapped(EVENS, 0, ((0, "aa"), False, None)), "worth")

    def test_left_none_of_a_worth_not_nought(self):
        self.stands(ROUND, [], swapped(EVENS, 4, ((1, "cc"), -7, None)), "left")
        self.walk(swapped(TABLE, 3, ((1, "b..x"), 5, None)), "left")
        game = game_of("ab", 2, ROUND[4][1:] * 2)
        self.stands(game, [], [(standing, 1, None) for standing, worth, left in EVENS[:4]], "left")

    def test_rising(self):
        for at in range(4):
            self.stands(WALK, [START], TABLE[:at + 1] + TABLE[at:], "rising")
        self.stands(WALK, [START], TABLE[::-1], "rising")
        self.stands(WALK, [START], [TABLE[1], TABLE[0]] + TABLE[2:], "rising")
        self.stands(WALK, [START], TABLE + [((1, "b..x"), 5, 0)], "rising")

    def test_things_of_other_kinds(self):
        for thing in OTHERS:
            self.assertIs(shows_solved(WALK, [START], thing), False, thing)
            self.assertIs(shows_solved(WALK, [], thing), type(thing) is list and thing == [], thing)

    def test_what_is_asked_of_stays(self):
        for thing in (TABLE, TABLE[::-1], listed(TABLE)):
            ahead = copy.deepcopy(thing)
            standings = [list(START)]
            shows_solved(WALK, standings, thing)
            self.assertEqual((repr(thing), standings), (repr(ahead), [list(START)]))


class Spoilt(unittest.TestCase):
    """Tables spoilt in many ways: the judge takes just those that stand by the one written here."""

    def spoilt(self, dice, game, table):
        table = list(table)
        at = dice.randrange(len(table))
        standing, worth, left = table[at]
        way = dice.randrange(5)
        if way == 0:
            del table[at]
        elif way == 1:
            table[at] = (standing, worth, dice.choice([None, 0, 1, 2, 3, 4, 9]))
        elif way == 2:
            table[at] = (standing, worth + dice.choice([-1, 1]), left)
        elif way == 3:
            ahead = [one for one in range(len(table)) if standing in behind(game, table[one][0])]
            for one in ahead[:1]:
                table[one] = (table[one][0], worth, left)
        else:
            table = [row for row in table if row[1] == worth]
        return table

    def test_spoilt(self):
        dice = random.Random(135)
        seen = {True: 0, False: 0}
        for game in small_games(136, 60):
            table = solved(game, all_standings(game))
            for number in range(20):
                begins = [dice.choice(all_standings(game))]
                found = reach_of(game, begins)
                part = [row for row in table if row[0] in found] if dice.randrange(2) else table
                thing = self.spoilt(dice, game, part)
                if dice.randrange(3) == 0 and thing:
                    thing = self.spoilt(dice, game, thing)
                want = broken_table(game, begins, thing) == set()
                self.assertIs(shows_solved(game, begins, thing), want, (game, begins, thing))
                seen[want] += 1
                if want:
                    worths = {standing: worth for standing, worth, far in table}
                    self.assertTrue(all(worth == worths[standing] for standing, worth, left in thing))
        self.assertTrue(min(seen.values()) > 100, seen)


if __name__ == "__main__":
    unittest.main()
