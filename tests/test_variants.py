import copy
import random
import unittest

from solvedplay.errors import BadChange
from solvedplay.games import is_game
from solvedplay.variants import changes, varied
from tests.asking import OTHERS, refused
from tests.oracle import game_of, listed, random_game
from tests.plain_variants import other_of, plain_varied, random_change

GAME = game_of(".ab", 4, ((("a", "."), ("ab", "ba")), (("b", "."),)), ((0, "aa", 4), (1, "bb", -3), (2, "...", 1)), (-2, 5))
# Six rules of each side, and six ends.
FULL = game_of("ab", 3, ((("a", "b"), ("aa", "ab"), ("aa", "ba"), ("aa", "bb"), ("ab", "aa"), ("ab", "ba")),
                         (("ab", "bb"), ("b", "a"), ("ba", "aa"), ("ba", "ab"), ("ba", "bb"), ("bb", "aa"))),
               ((0, "a", 1), (0, "b", 2), (1, "a", 3), (1, "b", -1), (2, "a", -2), (2, "b", -3)), (1, -1))
# Of the same name, beads and long, with other six, and other worths of the same ends.
OTHER = FULL[:4] + (FULL[4][::-1], tuple(end[:2] + (9,) for end in FULL[5]), (2, -2))


def with_part(at, part, game=GAME):
    return game[:at] + (part,) + game[at + 1:]


class Varied(unittest.TestCase):
    def test_shape(self):
        self.assertEqual(varied(GAME, ("shape", "ring")), with_part(1, "ring"))
        self.assertEqual(varied(with_part(1, "ring"), ("shape", "line")), GAME)

    def test_rules(self):
        self.assertEqual(varied(GAME, ("norule", 0, "a", ".")), with_part(4, ((("ab", "ba"),), GAME[4][1])))
        self.assertEqual(varied(GAME, ("norule", 1, "b", ".")), with_part(4, (GAME[4][0], ())))
        self.assertEqual(varied(GAME, ("rule", 0, "aa", "..")), with_part(4, ((("a", "."), ("aa", ".."), ("ab", "ba")),
                                                                              GAME[4][1])))
        self.assertEqual(varied(GAME, ("rule", 0, ".", "a")), with_part(4, (((".", "a"), ("a", "."), ("ab", "ba")), GAME[4][1])))
        self.assertEqual(varied(GAME, ("rule", 1, "bbb", "aaa")), with_part(4, (GAME[4][0], (("b", "."), ("bbb", "aaa")))))
        # The same rule of the other side is another one.
        self.assertEqual(varied(GAME, ("rule", 1, "a", ".")), with_part(4, (GAME[4][0], (("a", "."), ("b", ".")))))

    def test_ends(self):
        self.assertEqual(varied(GAME, ("noend", 1, "bb", -3)), with_part(5, ((0, "aa", 4), (2, "...", 1))))
        self.assertEqual(varied(GAME, ("end", 1, "aa", 9)), with_part(5, ((0, "aa", 4), (1, "aa", 9)) + GAME[5][1:]))
        self.assertEqual(varied(GAME, ("end", 0, "a", -9)), with_part(5, ((0, "a", -9),) + GAME[5]))
        self.assertEqual(varied(GAME, ("end", 2, "bbbb", 1)), with_part(5, GAME[5] + ((2, "bbbb", 1),)))

    def test_stuck(self):
        for worth in (-9, -1, 0, 9):
            self.assertEqual(varied(GAME, ("stuck", 0, worth)), with_part(6, (worth, 5)))
            self.assertEqual(varied(GAME, ("stuck", 1, worth)), with_part(6, (-2, worth)))

    def test_at_the_bounds(self):
        five = with_part(4, (FULL[4][0][:5], FULL[4][1]), FULL)
        self.assertEqual(varied(five, ("rule", 0, *FULL[4][0][5])), FULL)
        five = with_part(4, (FULL[4][0], FULL[4][1][1:]), FULL)
        self.assertEqual(varied(five, ("rule", 1, *FULL[4][1][0])), FULL)
        self.assertEqual(varied(with_part(5, FULL[5][1:], FULL), ("end", *FULL[5][0])), FULL)
        self.assertEqual(varied(with_part(5, FULL[5][:2] + FULL[5][3:], FULL), ("end", *FULL[5][2])), FULL)
        none = game_of("ab", 2)
        self.assertEqual(varied(none, ("rule", 0, "aa", "bb")), game_of("ab", 2, ((("aa", "bb"),), ())))
        self.assertEqual(varied(none, ("end", 2, "aa", 1)), game_of("ab", 2, ends=((2, "aa", 1),)))
        self.assertEqual(varied(game_of("ab", 2, ((("aa", "bb"),), ())), ("norule", 0, "aa", "bb")), none)

    def test_kinds_and_lists(self):
        for change in (("shape", "ring"), ("norule", 0, "a", "."), ("rule", 0, "aa", ".."), ("noend", 1, "bb", -3),
                       ("end", 1, "aa", 9), ("stuck", 0, 0)):
            want = repr(varied(GAME, change))
            self.assertEqual(repr(varied(listed(GAME), list(change))), want)
            self.assertEqual(repr(varied(game=GAME, change=change)), want)
            handed = [listed(GAME), list(change)]
            told = varied(*handed)
            self.assertEqual(handed, [listed(GAME), list(change)])
            handed[0].clear()
            self.assertEqual(repr(told), want)

    def test_drawn(self):
        dice = random.Random(371)
        seen = set()
        for number in range(3000):
            game = dice.choice([GAME, FULL, OTHER, random_game(dice, 4, 3)])
            change = random_change(dice, game)
            want = plain_varied(game, change)
            seen.add((change[0], want is None))
            if want is None:
                refused(self, BadChange, change, lambda: varied(game, change))
            else:
                self.assertEqual(varied(game, change), want)
        self.assertEqual(len(seen), 12)


class Refused(unittest.TestCase):
    def check(self, *things, game=GAME):
        for thing in things:
            for handed in (thing, listed(thing) if isinstance(thing, tuple) else thing):
                refused(self, BadChange, handed, lambda: varied(game, handed))

    def test_things_of_every_kind(self):
        self.check(*OTHERS)
        self.check("shape", "shape ring", ["shape"], [["shape", "ring"]], (("shape", "ring"),), ((), "ring"), ([], "ring"),
                   (None, "ring"), (1, "ring"), (True, "ring"), {}, {"shape": "ring"}, ({}, "ring"))

    def test_too_few_and_too_many_parts(self):
        right = [("shape", "ring"), ("norule", 0, "a", "."), ("rule", 0, "aa", ".."), ("noend", 1, "bb", -3),
                 ("end", 1, "aa", 9), ("stuck", 0, 0)]
        for change in right:
            varied(GAME, change)
            for many in range(len(change)):
                self.check(change[:many])
            for more in (0, "", None, "a", 1, ()):
                self.check(change + (more,))
            self.check((change,), change[1:], ("", *change), (change[0] + " ", *change[1:]), (change[0].upper(), *change[1:]))

    def test_parts_of_other_kinds(self):
        right = [("shape", "ring"), ("norule", 0, "a", "."), ("norule", 1, "b", "."), ("rule", 0, "aa", ".."),
                 ("rule", 1, "aa", ".."), ("noend", 1, "bb", -3), ("noend", 0, "aa", 4), ("noend", 2, "...", 1),
                 ("end", 1, "aa", 1), ("end", 0, "bb", 1), ("stuck", 0, 0), ("stuck", 1, 1)]
        for change in right:
            varied(GAME, change)
            for at in range(1, len(change)):
                for part in (None, (), [], [change[at]], (change[at],), {}, str(change[at]) + " ", b"a"):
                    self.check(change[:at] + (part,) + change[at + 1:])
                if isinstance(change[at], int):
                    self.check(change[:at] + (str(change[at]),) + change[at + 1:])
                    if change[at] in (0, 1):
                        self.check(change[:at] + (bool(change[at]),) + change[at + 1:])
                else:
                    self.check(change[:at] + (1,) + change[at + 1:], change[:at] + (True,) + change[at + 1:],
                               change[:at] + (list(change[at]),) + change[at + 1:])

    def test_shape(self):
        self.check(("shape", "line"), ("shape", ""), ("shape", "Ring"), ("shape", "knot"))
        self.check(("shape", "ring"), game=with_part(1, "ring"))

    def test_rules(self):
        self.check(("norule", 1, "a", "."), ("norule", 0, "b", "."), ("norule", 0, "ab", "bb"), ("norule", 0, ".", "a"),
                   ("norule", 0, "", ""), ("norule", 2, "a", "."), ("norule", -1, "b", "."), ("norule", -2, "a", "."))
        self.check(("rule", 0, "a", "."), ("rule", 1, "b", "."), ("rule", 2, "aa", ".."), ("rule", -1, "aa", ".."),
                   ("rule", 0, "a", "a"), ("rule", 0, "a", "bb"), ("rule", 0, "aa", "b"), ("rule", 0, "", ""),
                   ("rule", 0, "", "a"),
                   ("rule", 0, "a", ""), ("rule", 0, "aaaa", "bbbb"), ("rule", 0, "c", "a"), ("rule", 0, "a", "c"),
                   ("rule", 0, "A", "a"), ("rule", 0, "a a", "b b"))
        self.check(("rule", 0, "aaa", "bbb"), game=game_of("ab", 2))
        varied(game_of("ab", 3), ("rule", 0, "aaa", "bbb"))

    def test_a_seventh(self):
        self.check(("rule", 0, "bb", "aa"), ("rule", 1, "bb", "ab"), ("end", 0, "aa", 4), ("end", 2, "bbb", 4), game=FULL)
        varied(with_part(4, (FULL[4][0][1:], FULL[4][1]), FULL), ("rule", 0, "bb", "aa"))

    def test_ends(self):
        self.check(("noend", 0, "aa", 3), ("noend", 0, "aa", -4), ("noend", 1, "aa", 4), ("noend", 0, "a", 4),
                   ("noend", 0, "bb", 0), ("noend", 3, "aa", 4), ("noend", -1, "...", 1))
        # One of that who and pattern is there, of that worth or another one.
        self.check(("end", 0, "aa", 4), ("end", 0, "aa", 5), ("end", 1, "bb", 3), ("end", 2, "...", -1))
        self.check(("end", 3, "aa", 4), ("end", -1, "aa", 4), ("end", 1, "aa", 0), ("end", 1, "aa", 10), ("end", 1, "aa", -10),
                   ("end", 1, "", 4), ("end", 1, "aaaaa", 4), ("end", 1, "ac", 4), ("end", 1, "a ", 4))

    def test_stuck(self):
        self.check(("stuck", 0, -2), ("stuck", 1, 5), ("stuck", 2, 3), ("stuck", -1, 3), ("stuck", 0, 10), ("stuck", 1, -10))

    def test_what_the_refusal_has_is_not_kept(self):
        change = ["rule", 0, ["a"], ("b", [])]
        with self.assertRaises(BadChange) as caught:
            varied(GAME, change)
        want = copy.deepcopy(change)
        change[3][1].append(1)
        change.clear()
        self.assertEqual(repr(caught.exception.what), repr(want))


class Changes(unittest.TestCase):
    def check(self, game, other, want=None):
        """The changes lead from the one to the other, a game at each step, none of them more than needed."""
        told = changes(game, other)
        here = game
        for change in told:
            here = varied(here, change)
            self.assertIs(is_game(here), True)
        self.assertEqual(here, other)
        self.assertEqual(len(told), needed(game, other))
        order = ["shape", "norule", "rule", "noend", "end", "stuck"]
        self.assertEqual(told, sorted(told, key=lambda change: (order.index(change[0]), change)))
        if want is not None:
            self.assertEqual(told, want)

    def test_itself(self):
        for game in (GAME, FULL, game_of("ab", 2)):
            self.check(game, game, [])

    def test_each_sort(self):
        for change in (("shape", "ring"), ("norule", 0, "a", "."), ("rule", 0, "aa", ".."), ("noend", 1, "bb", -3),
                       ("end", 1, "aa", 9), ("stuck", 0, 0), ("stuck", 1, -5)):
            self.check(GAME, varied(GAME, change), [change])

    def test_there_and_back(self):
        self.check(varied(GAME, ("rule", 1, "a", ".")), GAME, [("norule", 1, "a", ".")])
        self.check(varied(GAME, ("end", 1, "aa", 9)), GAME, [("noend", 1, "aa", 9)])

    def test_several(self):
        other = game_of(".ab", 4, ((("ab", "ba"), ("b", "a")), ((".", "a"), ("b", "."))),
                        ((0, "a", 4), (1, "bb", 3), (2, "...", 1)), (0, 0), "ring")
        self.check(GAME, other, [("shape", "ring"), ("norule", 0, "a", "."), ("rule", 0, "b", "a"), ("rule", 1, ".", "a"),
                                 ("noend", 0, "aa", 4), ("noend", 1, "bb", -3), ("end", 0, "a", 4), ("end", 1, "bb", 3),
                                 ("stuck", 0, 0), ("stuck", 1, 0)])

    def test_a_rule_goes_to_the_other_side(self):
        other = with_part(4, ((("ab", "ba"),), (("a", "."), ("b", "."))))
        self.check(GAME, other, [("norule", 0, "a", "."), ("rule", 1, "a", ".")])

    def test_six_on_both_sides(self):
        self.check(FULL, OTHER)
        self.check(OTHER, FULL)
        self.assertEqual(len(changes(FULL, OTHER)), 24 + 12 + 2)

    def test_drawn(self):
        dice = random.Random(372)
        for number in range(300):
            game = random_game(dice, 4, 3)
            other = other_of(dice, game)
            self.check(game, other)

    def test_kinds_and_lists(self):
        want = repr(changes(FULL, OTHER))
        self.assertEqual(repr(changes(listed(FULL), listed(OTHER))), want)
        self.assertEqual(repr(changes(game=FULL, other=OTHER)), want)
        for game, other in ((listed(GAME), GAME), (GAME, listed(GAME)), (listed(FULL), FULL)):
            self.assertEqual(changes(game, other), [])
        told = changes(FULL, OTHER)
        told.clear()
        self.assertEqual(repr(changes(FULL, OTHER)), want)


def needed(game, other):
    """How many changes are needed at least: each of them brings or takes one thing."""
    many = (game[1] != other[1]) + sum(one != that for one, that in zip(game[6], other[6]))
    many += sum(len(set(game[4][side]) ^ set(other[4][side])) for side in (0, 1))
    return many + len(set(game[5]) ^ set(other[5]))


if __name__ == "__main__":
    unittest.main()
