import random
import unittest

from solvedplay.errors import NoMove, TooMany
from solvedplay.explaining import explained
from solvedplay.mistakes import given_away, mistakes
from solvedplay.playing import line
from solvedplay.records import told_moves
from tests.asking import (FORKED, LONG, LONGER, RINGED, ROUND, START, STEP, STOP, STUCK, TAKING, WALK, WALKED, asked_games,
                          random_record, refused, small_games, turned_round)
from tests.oracle import after, all_standings, end_of, game_of, line_by, listed, moves_of, reach_of, solve, ways_of
from tests.samples import FOUR_HUNDRED, ONE_MORE

# Each can win at once, by a c; who turns a bead over instead leaves that to the other one.
SNATCH = game_of("abc", 2, ((("a", "b"), ("a", "c"), ("b", "a"), ("b", "c")),) * 2, ((0, "c", -5), (1, "c", 5)))
PASSES = [(0, "a", "b"), (0, "b", "a")]
# Forty mistakes, twenty of each side.
FORTY = ((0, "aa"), PASSES * 20)
ALL = (mistakes, given_away, explained)


def behind_record(game, record):
    """The standings of a record, its first one counted."""
    standings = [record[0]]
    for move in record[1]:
        standings.append(after(game, standings[-1], move))
    return standings


def wanted(game, told, record):
    """What mistakes must tell, by the worths of all standings."""
    standings = behind_record(game, record)
    ways = ways_of(game, list(told))
    worths = [told[one][0] for one in standings]
    return [(number, worths[number], worths[number + 1], line_by(ways, told, standings[number + 1])[0])
            for number in range(len(record[1])) if worths[number] != worths[number + 1]]


def drawn_records(seed, games, most=12):
    """Games in which mistakes can be made, their worths, and records of play in them."""
    dice = random.Random(seed)
    for game in games:
        told = solve(game, all_standings(game))
        ways = ways_of(game, list(told))
        if any(told[other][0] != told[one][0] for one in ways for move, other in ways[one]):
            for number in range(6):
                yield game, told, random_record(dice, game, most)


class Mistakes(unittest.TestCase):
    def test_none(self):
        for game, record in ((WALK, WALKED), (FORKED, WALKED), (RINGED, LONG), (RINGED, LONGER), (WALK, (START, [])),
                             (STUCK, ((1, ".x"), [])), (SNATCH, ((0, "aa"), [(0, "a", "c")]))):
            self.assertEqual(mistakes(game, record), [])
            self.assertEqual(given_away(game, record), (0, 0))

    def test_one_that_ends(self):
        self.assertEqual(mistakes(FORKED, (START, [STOP])), [(0, 5, 2, [])])
        self.assertEqual(mistakes(turned_round(FORKED), ((1, "ax.."), [STOP])), [(0, -5, -2, [])])

    def test_one_behind_others(self):
        record = ((0, "aa"), [(0, "a", "b"), (0, "b", "a"), (0, "aa", "cc")])
        self.assertEqual(mistakes(ROUND, record), [(2, 0, -7, [])])
        record = ((1, "aa"), [(0, "a", "b"), (0, "b", "a"), (0, "a", "b"), (0, "b", "a"), (0, "a", "b")])
        self.assertEqual(mistakes(ROUND, record), [])

    def test_both_sides(self):
        self.assertEqual(mistakes(SNATCH, ((0, "aa"), PASSES)), [(0, 5, -5, [(0, "b", "c")]), (1, -5, 5, [(0, "a", "c")])])
        self.assertEqual(mistakes(SNATCH, ((1, "aa"), PASSES[:1])), [(0, -5, 5, [(0, "b", "c")])])

    def test_forty(self):
        want = []
        for number in range(0, 40, 2):
            want += [(number, 5, -5, [(0, "b", "c")]), (number + 1, -5, 5, [(0, "a", "c")])]
        self.assertEqual(mistakes(SNATCH, FORTY), want)
        longer = (FORTY[0], FORTY[1] + PASSES[:1])
        self.assertEqual(mistakes(SNATCH, longer), want + [(40, 5, -5, [(0, "b", "c")])])

    def test_the_moves_go_round(self):
        # Side 0 wins by a c; where there's no a, side 1 can take care that there's none again, or make a d of all.
        game = game_of("abcd", 2, ((("a", "b"), ("a", "c"), ("b", "a")), (("a", "b"), ("b", "a"), ("b", "d"))), ((1, "c", 4),))
        told = mistakes(game, ((0, "aa"), [(0, "a", "b"), (0, "b", "d"), (1, "a", "b")]))
        self.assertEqual(told, [(0, 4, 0, [(1, "a", "b"), (0, "b", "a"), (0, "a", "b")]), (1, 0, 4, [(1, "a", "c")]),
                                (2, 4, 0, [(1, "b", "d")])])
        self.assertEqual([line(game, one)[1] for one in ((1, "ba"), (0, "da"), (1, "db"))], ["round", "end", "end"])

    def test_drawn(self):
        seen = set()
        for game, told, record in drawn_records(301, small_games(302, 250)):
            want = wanted(game, told, record)
            self.assertEqual(mistakes(game, record), want)
            standings = behind_record(game, record)
            for number, ahead, behind, made in want:
                word = line(game, standings[number + 1])[1]
                signs = tuple((worth > 0) - (worth < 0) for worth in (ahead, behind))
                seen.update([("signs", standings[number][0], *signs), (word, made == [])])
        for side, sign in ((0, 1), (1, -1)):
            for signs in ((1, 1), (1, 0), (1, -1), (0, -1), (-1, -1)):
                self.assertIn(("signs", side, signs[0] * sign, signs[1] * sign), seen)
        for one in (("end", True), ("end", False), ("round", False)):
            self.assertIn(one, seen)

    def test_what_is_given_away_is_taken(self):
        """[1] (d): the moves told with a mistake lead to an end of the worth behind, or hold that at 0."""
        many = 0
        for game, told, record in drawn_records(303, small_games(304, 150)):
            standings = behind_record(game, record)
            for number, ahead, behind, made in mistakes(game, record):
                side = standings[number][0]
                self.assertTrue(behind < ahead if side == 0 else behind > ahead)
                met = behind_record(game, (standings[number + 1], made))
                if behind != 0 or end_of(game, met[-1]) is not None:
                    self.assertEqual(end_of(game, met[-1]), behind)
                else:
                    self.assertIn(met[-1], met[:-1])
                    self.assertEqual({told[one][0] for one in met}, {0})
                many += 1
        self.assertTrue(many > 30, many)

    def test_as_told_moves(self):
        for game, told, record in drawn_records(305, small_games(306, 60)):
            words = told_moves(game, record)
            self.assertEqual([row[0] for row in mistakes(game, record)],
                             [number for number, row in enumerate(words) if row[0] == "mistake"])

    def test_lists_told_are_unlike(self):
        told, other = mistakes(SNATCH, FORTY), mistakes(SNATCH, FORTY)
        lists = [told, other] + [row[3] for row in told + other]
        self.assertEqual(len({id(one) for one in lists}), len(lists))
        told[0][3].append("changed")
        told.clear()
        self.assertEqual(mistakes(SNATCH, FORTY), other)

    def test_kinds(self):
        told = mistakes(SNATCH, ((0, "aa"), PASSES))
        self.assertEqual(repr(told), "[(0, 5, -5, [(0, 'b', 'c')]), (1, -5, 5, [(0, 'a', 'c')])]")
        self.assertEqual(repr(mistakes(listed(SNATCH), listed(((0, "aa"), PASSES)))), repr(told))


class GivenAway(unittest.TestCase):
    def test_both_sides(self):
        self.assertEqual(given_away(SNATCH, ((0, "aa"), PASSES[:1])), (10, 0))
        self.assertEqual(given_away(SNATCH, ((1, "aa"), PASSES[:1])), (0, 10))
        self.assertEqual(given_away(SNATCH, ((0, "aa"), PASSES)), (10, 10))
        self.assertEqual(given_away(SNATCH, FORTY), (200, 200))
        self.assertEqual(given_away(SNATCH, (FORTY[0], FORTY[1][:39])), (200, 190))
        self.assertEqual(given_away(FORKED, (START, [STOP])), (3, 0))
        self.assertEqual(given_away(turned_round(FORKED), ((1, "ax.."), [STOP])), (0, 3))
        self.assertEqual(given_away(ROUND, ((0, "aa"), [(0, "aa", "cc")])), (7, 0))

    def test_is_the_sum_of_the_mistakes(self):
        sums = set()
        for game, told, record in drawn_records(307, small_games(308, 120), 40):
            want = [0, 0]
            worths = [told[one][0] for one in behind_record(game, record)]
            for number in range(len(record[1])):
                side = (record[0][0] + number) % 2
                want[side] += worths[number] - worths[number + 1] if side == 0 else worths[number + 1] - worths[number]
            self.assertEqual(given_away(game, record), tuple(want))
            rows = mistakes(game, record)
            self.assertEqual(sum(given_away(game, record)), sum(abs(row[1] - row[2]) for row in rows))
            sums.add(tuple(given > 0 for given in want))
        self.assertEqual(sums, {(False, False), (True, False), (False, True), (True, True)})

    def test_kinds(self):
        self.assertEqual(repr(given_away(SNATCH, FORTY)), "(200, 200)")
        self.assertEqual(repr(given_away(listed(SNATCH), listed(FORTY))), "(200, 200)")


class Refused(unittest.TestCase):
    def check(self, refusal, what, game, record, **most):
        for function in ALL:
            refused(self, refusal, what, lambda: function(game, record, **most))

    def test_no_move(self):
        for move in ((0, "a", "b"), (0, "x.", ".x"), (True, "x.", ".x"), (1, "x."), (), ("1", "x.", ".x"), (-3, "x.", ".x")):
            self.check(NoMove, (0, move), WALK, (START, [move]))
            self.check(NoMove, (0, move), WALK, (listed(START), [listed(move)]))
            self.check(NoMove, (1, move), WALK, ((1, "bx.."), [(0, "b", "a"), move, (9, "x", "x")]))
        self.check(NoMove, (3, (0, "b", "a")), WALK, (START, WALKED[1] + [(0, "b", "a")]))
        self.check(NoMove, (0, (0, ".", "x")), STUCK, ((0, ".."), [(0, ".", "x")]))
        self.check(NoMove, (40, (0, "a", "z")), SNATCH, (FORTY[0], FORTY[1] + [(0, "a", "z")]))

    def test_no_move_goes_ahead_of_too_many(self):
        self.check(NoMove, (0, STOP), WALK, (START, [STOP]), most=1)
        self.check(NoMove, (1, STEP), WALK, (START, [STEP, STEP]), most=1)

    def test_too_many(self):
        self.check(TooMany, 3, WALK, WALKED, most=3)
        self.check(TooMany, 3, WALK, (START, []), most=3)
        for function in ALL:
            self.assertEqual(len(function(WALK, WALKED, most=4)), len(function(WALK, WALKED)))
        for game, begin in ONE_MORE:
            for made in ([], moves_of(game, begin)[:1]):
                self.check(TooMany, 400, game, (begin, made))
                for function in ALL:
                    self.assertEqual(function(game, (begin, made), most=401), function(game, (begin, made), most=500))

    def test_as_many_and_one_fewer(self):
        dice = random.Random(309)
        for game in asked_games(310, 20):
            record = random_record(dice, game, dice.randrange(4))
            many = len(reach_of(game, [record[0]]))
            for function in ALL:
                self.assertEqual(function(game, record, most=many), function(game, record))
            if many > 1:
                self.check(TooMany, many - 1, game, record, most=many - 1)

    def test_those_reached_from_the_begin_count(self):
        record = ((0, "xxx."), [(0, "x", "."), (1, "x", ".")])
        self.check(TooMany, 7, TAKING, record, most=7)
        for function in ALL:
            function(TAKING, record, most=8)

    def test_most_by_its_name_alone(self):
        for function in ALL:
            with self.assertRaises(TypeError):
                function(WALK, WALKED, 400)
            self.assertEqual(function(game=WALK, record=WALKED, most=400), function(WALK, WALKED))

    def test_four_hundred(self):
        for game, begin in FOUR_HUNDRED:
            for made in ([], moves_of(game, begin)[:1]):
                for function in ALL:
                    self.assertEqual(function(game, (begin, made)), function(game, (begin, made), most=400))


if __name__ == "__main__":
    unittest.main()
