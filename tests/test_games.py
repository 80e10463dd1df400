import unittest

from solvedplay.games import is_game, is_standing
from tests.oracle import game_of, listed, random_games

GAME = ("hop", "ring", ".ab", 5, ((("a.", ".a"), ("b", "a")), (("..a", "a.."),)),
        ((0, "aa", 3), (1, "b", -9), (2, "ab", 9)), (0, -9))
NAME, SHAPE, BEADS, LONG, RULES, ENDS, STUCK = range(7)

SIX_RULES = (("a", "."), ("a", "b"), ("a.", ".a"), ("b", "."), ("b", "a"), ("bbb", "aaa"))
SIX_ENDS = ((0, "a", 9), (0, "b", -9), (1, "a", 1), (1, "ab", -1), (2, "a", 5), (2, "bbbbb", 5))

# Things of all kinds, none of which is a part of a game.
OTHERS = [None, True, False, 10, -10, "", "?", (), [], (None,), ([],), [()], ((),), [["a"], 0]]


def deep_in(thing, deep, sort):
    for at in range(deep):
        thing = sort([thing])
    return thing


def with_part(at, part):
    return GAME[:at] + (part,) + GAME[at + 1:]


class Asked(unittest.TestCase):
    def check(self, told, thing):
        self.assertIs(is_game(thing), told, repr(thing))

    def check_part(self, told, at, parts):
        for part in parts:
            self.check(told, with_part(at, part))


class Whole(Asked):
    def test_games(self):
        self.check(True, GAME)
        self.check(True, game_of())
        self.check(True, ("a", "line", "ab", 2, ((), ()), (), (0, 0)))
        full = ("abcdefgh", "line", ".abz", 7, (SIX_RULES, SIX_RULES), SIX_ENDS, (-9, 9))
        self.check(True, full)
        self.assertIs(is_game(thing=GAME), True)
        for game in random_games(41, 200, 7, 4):
            self.check(True, game)

    def test_a_list_is_no_game(self):
        self.check(False, list(GAME))
        self.check(False, listed(GAME))

    def test_parts_left_out_twice_and_one_more(self):
        for at in range(7):
            self.check(False, GAME[:at] + GAME[at + 1:])
            self.check(False, GAME[:at] + (GAME[at],) + GAME[at:])
        for more in (None, 0, "", ()):
            self.check(False, GAME + (more,))
            self.check(False, (more,) + GAME)

    def test_parts_exchanged(self):
        for one in range(7):
            for other in range(one):
                parts = list(GAME)
                parts[one], parts[other] = parts[other], parts[one]
                self.check(False, tuple(parts))

    def test_parts_of_other_kinds(self):
        for at in range(7):
            self.check_part(False, at, [other for other in OTHERS if (at, other) != (ENDS, ())])
            self.check_part(False, at, [(GAME[at],), [GAME[at]]])

    def test_things_that_are_no_games(self):
        for thing in OTHERS + [0, 7, "game", "hop ring .ab 5", (GAME,), [GAME], (None,) * 7, ((),) * 7, "abcdefg"]:
            self.check(False, thing)

    def test_things_twelve_deep(self):
        for sort in (list, tuple):
            self.check(False, deep_in(GAME, 8, sort))
            for thing in (None, 0, True, "a"):
                self.check(False, deep_in(thing, 12, sort))
                for at in range(7):
                    self.check(False, with_part(at, deep_in(thing, 11, sort)))
            for at in range(7):
                self.check(False, with_part(at, deep_in(GAME[at], 8, sort)))


class Head(Asked):
    def test_names(self):
        self.check_part(True, NAME, ["a", "z", "az", "abcdefgh", "zzzzzzzz", "hop"])
        self.check_part(False, NAME, ["", "abcdefghi", "A", "aB", "a1", "1", "a.", ".", "a_b", "a b", " a", "a ", "a\n",
                                      "\u00e9", "a\u00aa", "\u03b1", "`", "{", 0, True, ("a",), ["a"], ("a", "b")])

    def test_shapes(self):
        self.check_part(True, SHAPE, ["line", "ring"])
        self.check_part(False, SHAPE, ["", "Line", "RING", "lines", "rin", " ring", "ring ", "circle", "lin", "e",
                                       0, 1, True, None, ("ring",), ["ring"], ("line", "ring")])

    def test_beads(self):
        def game(beads):
            return ("a", "line", beads, 2, ((), ()), (), (0, 0))
        for beads in (".a", "a.", "ab", "az", "za", "z.", "abc", "abcd", ".abz", "dcba", "x.yz"):
            self.check(True, game(beads))
        for beads in ("", ".", "a", "abcde", ".abcd", "aa", "..", ".a.", "aba", "abca", "abb", "aabc", "A.", "aB", "a1",
                      "01", "a ", " .", "a\n", "a-", "a_", "a`", "a{", "\u00e9.", "a\u00aa", "a/",
                      ("a", "b"), ["a", "b"], (".", "x"), 2, 22, True, None):
            self.check(False, game(beads))

    def test_beads_of_which_one_is_twice_in_an_else_right_game(self):
        self.check_part(False, BEADS, [".aba", ".abb", "..ab"])
        self.check_part(True, BEADS, [".ab", "ba.", ".abc", "zb.a"])
        self.check_part(False, BEADS, ["ab", ".b", ".a", "abc"])

    def test_long(self):
        def game(long):
            return ("a", "ring", ".x", long, ((), ()), (), (0, 0))
        for long in range(2, 8):
            self.check(True, game(long))
        for long in (-7, -2, -1, 0, 1, 8, 9, 70, True, False, None, "2", "", (2,), [2], (2, 3)):
            self.check(False, game(long))


class Rules(Asked):
    def check_rules(self, told, rules):
        # Of either side.
        self.check(told, with_part(RULES, (rules, ())))
        self.check(told, with_part(RULES, ((), rules)))
        self.check(told, with_part(RULES, (rules, (("a", "b"),))))
        self.check(told, with_part(RULES, ((("a", "b"),), rules)))

    def test_pairs_of_sides(self):
        right = (("a", "b"),)
        self.check_part(True, RULES, [((), ()), (right, ()), ((), right), (right, right)])
        self.check_part(False, RULES, [(), ((),), ((), (), ()), (right,), (right, right, right), right, [(), ()],
                                       [right, right], ("", ""), (None, None), ((), None), (None, ()), (0, 0)])

    def test_rules(self):
        for rule in [("a", "b"), ("b", "a"), (".", "a"), ("a.", ".a"), ("aaa", "..."), ("..a", "..b"), ("ab", "aa")]:
            self.check_rules(True, (rule,))

    def test_unlike_texts_of_as_many_beads(self):
        for rule in [("a", "a"), ("ab", "ab"), ("...", "..."), ("a", "ab"), ("ab", "a"), ("abb", "ab"), ("ab", "abb"),
                     ("", ""), ("", "a"), ("a", ""), ("aaaa", "bbbb"), ("aaaa", "aaa"), ("aaa", "aaaa")]:
            self.check_rules(False, (rule,))

    def test_beads_of_the_game(self):
        for rule in [("a", "c"), ("c", "a"), ("ac", "ab"), ("ab", "ac"), ("A", "a"), ("a", "A"), ("a ", "a."), ("a", "1")]:
            self.check_rules(False, (rule,))

    def test_long_at_most(self):
        for long in (2, 3, 4):
            for many in (1, 2, 3, 4):
                rule = ("a" * many, "b" * many)
                for rules in (((rule,), ()), ((), (rule,))):
                    self.check(many <= min(3, long), ("a", "ring", "ab", long, rules, (), (0, 0)))

    def test_kinds(self):
        for rule in [["a", "b"], ("a",), ("a", "b", "a"), ("a", "b", None), (), "ab", None, True, 0, ("a", None),
                     (None, "b"), (0, 1), ("a", True), ("a", 0), (False, "b"), (("a",), ("b",)), ("a", ("b",)),
                     (("a",), "b"), (["a"], ["b"]), ("a", ["b"]), (("a", "b"), ("b", "a"))]:
            self.check_rules(False, (rule,))
            self.check_rules(False, (("a", "."), rule))
            self.check_rules(False, (rule, ("b", "a")))

    def test_lists_for_tuples(self):
        self.check_rules(False, [])
        self.check_rules(False, [("a", "b")])
        self.check_rules(False, (["a", "b"],))
        self.check_part(False, RULES, [list(GAME[RULES]), (list(GAME[RULES][0]), GAME[RULES][1]),
                                       (GAME[RULES][0], list(GAME[RULES][1]))])

    def test_rising(self):
        self.check_rules(True, SIX_RULES[:2])
        self.check_rules(True, (("a", "."), ("b", ".")))
        for rules in [(("a", "b"), ("a", ".")), (("b", "."), ("a", ".")), (("a", "b"), ("a", "b")),
                      (("a", "."), ("b", "."), ("a", "b")), (("b", "a"), ("b", "a"), ("bb", "aa")),
                      (("bb", "aa"), ("b", "a"))]:
            self.check_rules(False, rules)
        self.check_rules(False, SIX_RULES[::-1])

    def test_six_at_most(self):
        seven = SIX_RULES[:5] + (("ba", "ab"), ("bbb", "aaa"))
        self.check_rules(True, seven[:6])
        self.check_rules(True, SIX_RULES)
        self.check_rules(False, seven)


class Ends(Asked):
    def test_ends(self):
        self.check_part(True, ENDS, [(), ((0, "a", 1),), SIX_ENDS])

    def test_who(self):
        for who in (0, 1, 2):
            self.check_part(True, ENDS, [((who, "ab", 1),)])
        for who in (-1, 3, 9, True, False, None, "0", "", (0,), [0]):
            self.check_part(False, ENDS, [((who, "ab", 1),), ((0, "a", 1), (who, "ab", 1))])

    def test_patterns(self):
        for long in (2, 3, 7):
            for many in range(0, 9):
                game = ("a", "line", "ab", long, ((), ()), ((1, "b" * many, 1),), (0, 0))
                self.check(1 <= many <= long, game)
        for pattern in ("c", "ac", "A", "a ", " ", "1", None, 0, True, ("a",), ["a"], ("a", "b"), ()):
            self.check_part(False, ENDS, [((0, pattern, 1),), ((0, "a", 1), (1, pattern, 1))])

    def test_worths(self):
        for worth in list(range(-9, 0)) + list(range(1, 10)):
            self.check_part(True, ENDS, [((0, "a", worth),)])
        for worth in (0, 10, -10, 99, True, False, None, "1", "", (1,), [1]):
            self.check_part(False, ENDS, [((0, "a", worth),), ((0, "a", 1), (1, "a", worth))])

    def test_kinds(self):
        for end in [[0, "a", 1], (0, "a"), ("a", 1), (0, 1), (0, "a", 1, 1), (0, "a", 1, None), (), "0a1", None, 0, True,
                    ("a", 0, 1), (1, 0, "a"), (0, 1, "a"), ((0, "a", 1),)]:
            self.check_part(False, ENDS, [(end,), ((0, ".", 1), end), (end, (2, "b", 1))])
        self.check_part(False, ENDS, [[], [(0, "a", 1)], ([0, "a", 1],), (0, "a", 1), "", None])

    def test_rising(self):
        one, two, three = (0, "a", 5), (0, "ab", -5), (1, "a", 1)
        self.check_part(True, ENDS, [(one, two, three), (one, three), (two, three)])
        self.check_part(False, ENDS, [(two, one), (three, one), (one, three, two), (one, one), (one, two, two),
                                      (three, two, one), (two, one, three)])

    def test_no_two_of_one_who_and_pattern(self):
        self.check_part(False, ENDS, [((0, "a", 1), (0, "a", 2)), ((1, "ab", -3), (1, "ab", 3)),
                                      ((0, "a", 1), (2, "b", -9), (2, "b", 9)), ((2, "b", 9), (2, "b", -9))])
        self.check_part(True, ENDS, [((0, "a", 1), (1, "a", 1), (2, "a", 1)), ((0, "a", 1), (0, "b", 1))])

    def test_six_at_most(self):
        self.check_part(True, ENDS, [SIX_ENDS])
        self.check_part(False, ENDS, [SIX_ENDS[:5] + ((2, "ab", 5),) + SIX_ENDS[5:]])


class Stuck(Asked):
    def test_worths(self):
        for worth in range(-9, 10):
            self.check_part(True, STUCK, [(worth, 0), (0, worth), (worth, worth)])
        for worth in (10, -10, 99, True, False, None, "0", "", (0,), [0]):
            self.check_part(False, STUCK, [(worth, 0), (0, worth), (worth, worth)])

    def test_kinds(self):
        self.check_part(False, STUCK, [(), (0,), (0, 0, 0), [0, 0], "00", "ab", 0, None, ((0, 0),), ((0,), (0,))])


class Standings(unittest.TestCase):
    def check(self, told, thing, game=GAME):
        self.assertIs(is_standing(game, thing), told, repr(thing))
        self.assertIs(is_standing(listed(game), thing), told, repr(thing))

    def test_standings(self):
        for row in (".....", "aaaaa", "bbbbb", ".ab.a", "abab.", "bbbba"):
            self.check(True, (0, row))
            self.check(True, (1, row))
        self.assertIs(is_standing(game=GAME, thing=(1, ".ab.a")), True)
        self.assertIs(is_standing(GAME, thing=(1, ".ab.")), False)

    def test_sides(self):
        for side in (-1, 2, 3, True, False, None, "0", "1", "", (0,), [0]):
            self.check(False, (side, ".ab.a"))

    def test_rows(self):
        for row in ("", "a", ".ab.", ".ab.aa", ".ab.c", "cccca", "ABABA", ".ab a", ".ab.\n", ".ab.a\n", "12345", "*****",
                    None, 5, True, ("a",) * 5, ["a"] * 5, (".ab.a",), [".ab.a"]):
            self.check(False, (0, row))
            self.check(False, (1, row))

    def test_each_long(self):
        for long in range(2, 8):
            for many in range(0, 10):
                self.check(many == long, (0, "x." * 5)[:1] + (("x." * 5)[:many],), game_of(".x", long))

    def test_other_beads(self):
        self.check(False, (0, "..."), game_of("ab", 3))
        self.check(True, (0, "aba"), game_of("ab", 3))
        self.check(False, (0, "abc"), game_of("ab", 3))

    def test_kinds(self):
        for thing in [None, True, False, 0, "", "0a", ".ab.a", (), (0,), (".ab.a",), (0, ".ab.a", 0), (0, ".ab.a", None),
                      (".ab.a", 0), [0, ".ab.a"], ((0, ".ab.a"),), [(0, ".ab.a")], ((0,), (".ab.a",)), (0, 0),
                      (".ab.a", ".ab.a"), GAME]:
            self.check(False, thing)

    def test_things_twelve_deep(self):
        for sort in (list, tuple):
            for thing in (None, 0, "a", (0, ".ab.a")):
                self.check(False, deep_in(thing, 11, sort))
                self.check(False, (0, deep_in(thing, 10, sort)))
                self.check(False, (deep_in(thing, 10, sort), ".ab.a"))


if __name__ == "__main__":
    unittest.main()
