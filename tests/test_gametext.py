import random
import unittest

from solvedplay.errors import BadRow
from solvedplay.games import is_game
from solvedplay.gametext import game_in, game_text
from tests.oracle import game_of, listed, random_games
from tests.spoiling import spoilt

GAME = ("hop", "ring", ".ab", 5, ((("a.", ".a"), ("b", "a")), (("..a", "a.."),)),
        ((0, "aa", 3), (1, "b", -9), (2, "ab", 9)), (0, -9))
ROWS = ["game hop ring .ab 5", "rule 0 a. .a", "rule 0 b a", "rule 1 ..a a..", "end 0 aa 3", "end 1 b -9", "end 2 ab 9",
        "stuck 0 -9"]
TEXT = "\n".join(ROWS)
RULE_ROWS = ["rule 0 a .", "rule 0 a b", "rule 0 a. .a", "rule 0 b .", "rule 0 b a", "rule 0 bbb aaa"]
END_ROWS = ["end 0 a 9", "end 0 b -9", "end 1 a 1", "end 1 ab -1", "end 2 a 5", "end 2 bbbbb 5"]


def text_of(*rows):
    return "\n".join(rows)


def plain_game(rows):
    """The game in rows that may be of some game's text; None where some row surely isn't."""
    head, rules, ends, stuck = None, ([], []), [], None
    for row in rows:
        words = row.split(" ")
        try:
            if words[0] == "game":
                head = (words[1], words[2], words[3], int(words[4]))
            elif words[0] == "rule":
                rules[int(words[1])].append((words[2], words[3]))
            elif words[0] == "end":
                ends.append((int(words[1]), words[2], int(words[3])))
            elif words[0] == "stuck":
                stuck = (int(words[1]), int(words[2]))
            else:
                return None
        except (ValueError, IndexError):
            return None
    if head is None or stuck is None:
        return None
    return head + (tuple(tuple(side) for side in rules), tuple(ends), stuck)


def is_text(rows):
    game = plain_game(rows)
    return game is not None and is_game(game) and game_text(game) == "\n".join(rows)


def bad_row(text):
    """The row that game_in must refuse, or None: the first up to which no game's text begins like this."""
    rows = text.split("\n")
    for at in range(len(rows)):
        if not is_text(rows[:at + 1]) and not is_text(rows[:at + 1] + ["stuck 0 0"]):
            return at
    return None if is_text(rows) else len(rows)


class Texts(unittest.TestCase):
    def test_text_of_a_game(self):
        self.assertEqual(game_text(GAME), TEXT)
        self.assertEqual(game_text(game=GAME), TEXT)
        self.assertEqual(game_text(listed(GAME)), TEXT)

    def test_text_of_a_game_without_rules_and_ends(self):
        self.assertEqual(game_text(game_of(".x", 3)), "game toy line .x 3\nstuck 0 0")
        self.assertEqual(game_in("game toy line .x 3\nstuck 0 0"), game_of(".x", 3))

    def test_back(self):
        for told in (game_in(TEXT), game_in(text=TEXT)):
            self.assertEqual(told, GAME)
            self.assertIs(is_game(told), True)

    def test_there_and_back(self):
        for game in random_games(51, 300, 7, 4):
            told = game_in(game_text(game))
            self.assertEqual(told, game)
            self.assertIs(is_game(told), True)

    def test_at_the_bounds(self):
        rows = ["game abcdefgh line .abz 7"] + RULE_ROWS + [row.replace("rule 0", "rule 1") for row in RULE_ROWS]
        rows += END_ROWS + ["stuck -9 9"]
        told = game_in("\n".join(rows))
        self.assertIs(is_game(told), True)
        self.assertEqual(game_text(told), "\n".join(rows))
        for worth in range(-9, 10):
            text = f"game a ring ab 2\nstuck {worth} {-worth}"
            self.assertEqual(game_in(text), ("a", "ring", "ab", 2, ((), ()), (), (worth, -worth)))
            if worth != 0:
                text = f"game a ring ab 2\nend 2 ab {worth}\nstuck 0 0"
                self.assertEqual(game_in(text)[5], ((2, "ab", worth),))


class Refused(unittest.TestCase):
    def check(self, row, *rows):
        text = "\n".join(rows)
        with self.assertRaises(BadRow, msg=repr(text)) as caught:
            game_in(text)
        self.assertEqual(caught.exception.what, row, repr(text))
        self.assertIs(type(caught.exception.what), int)

    def check_row(self, at, rows):
        """Of each of these, in the place of the row of ROWS, it's this row that is refused."""
        for row in rows:
            self.check(at, *ROWS[:at], row, *ROWS[at + 1:])

    def test_no_text(self):
        self.check(0, "")
        self.check(0, "", "")
        self.check(0, " ")
        self.check(0, "", *ROWS)

    def test_head(self):
        self.check_row(0, [
            "", " ", "game", "game hop", "game hop ring", "game hop ring .ab", "game hop ring .ab 5 5", "hop ring .ab 5",
            "Game hop ring .ab 5", "games hop ring .ab 5", " game hop ring .ab 5", "game hop ring .ab 5 ",
            "game  hop ring .ab 5", "game hop  ring .ab 5", "game hop ring  .ab 5", "game hop ring .ab  5",
            "game  ring .ab 5", "game hop ring .ab ", "game ring hop .ab 5", "game hop ring 5 .ab",
            "game\thop ring .ab 5", "game hop ring .ab 5\r", "game Hop ring .ab 5", "game abcdefghi ring .ab 5",
            "game h1 ring .ab 5", "game hop Ring .ab 5", "game hop circle .ab 5", "game hop ring . 5", "game hop ring a 5",
            "game hop ring .aba 5", "game hop ring .abcd 5", "game hop ring .aB 5", "game hop ring .ab 1",
            "game hop ring .ab 8", "game hop ring .ab 0", "game hop ring .ab -5", "game hop ring .ab 05",
            "game hop ring .ab +5", "game hop ring .ab 5.", "game hop ring .ab five", "game hop ring .ab 10",
            "game hop ring .ab \u0665", "game hop ring .ab 5_", "rule 0 a. .a", "end 0 aa 3", "stuck 0 -9"])

    def test_head_left_out_twice_and_exchanged(self):
        self.check(0, *ROWS[1:])
        self.check(1, ROWS[0], *ROWS)
        self.check(0, ROWS[1], ROWS[0], *ROWS[2:])
        self.check(0, ROWS[7], *ROWS[:7])
        self.check(7, *ROWS[:7], ROWS[0])
        self.check(8, *ROWS, ROWS[0])

    def test_rules(self):
        bad = ["", " ", "rule", "rule 0", "rule 0 b", "rule 0 b a a", "0 b a", "Rule 0 b a", "rules 0 b a", " rule 0 b a",
               "rule 0 b a ", "rule  0 b a", "rule 0  b a", "rule 0 b  a", "rule 0  a", "rule 0 b ", "rule 2 b a",
               "rule -1 b a", "rule 00 b a", "rule -0 b a", "rule +0 b a", "rule a b a", "rule b a", "rule 0 b b",
               "rule 0 b aa", "rule 0 bb a", "rule 0 c a", "rule 0 b c", "rule 0 bbbb aaaa", "rule 0 B a", "rule\t0 b a",
               "rule 0 b a\r", "rule 0 b,a", "rule b a 0", "rule 01 b a", "rule \u0660 b a"]
        self.check_row(2, bad)
        self.check_row(3, [row.replace("rule 0", "rule 1") for row in bad if row != "rule 01 b a"])

    def test_rules_that_cannot_stand_there(self):
        self.check(2, ROWS[0], ROWS[1], ROWS[1], *ROWS[2:])
        self.check(2, ROWS[0], ROWS[2], ROWS[1], *ROWS[3:])
        self.check(2, *ROWS[:2], "rule 0 a .", *ROWS[2:])
        self.check(4, *ROWS[:4], ROWS[3], *ROWS[4:])
        self.check(4, *ROWS[:4], "rule 1 .. aa", *ROWS[4:])
        self.check(4, *ROWS[:4], "rule 0 bb aa", *ROWS[4:])
        self.check(2, ROWS[0], ROWS[3], *ROWS[1:3], *ROWS[4:])
        self.check(5, *ROWS[:5], "rule 0 bb aa", *ROWS[5:])
        self.check(5, *ROWS[:5], "rule 1 bb aa", *ROWS[5:])
        self.check(8, *ROWS, "rule 1 bb aa")

    def test_rules_longer_than_the_row(self):
        self.check(1, "game hop ring ab 2", "rule 0 aaa bbb", "stuck 0 0")
        self.check(1, "game hop ring ab 2", "rule 1 aaa bbb", "stuck 0 0")
        self.assertEqual(game_in(text_of("game hop ring ab 2", "rule 0 aa bb", "stuck 0 0"))[4], ((("aa", "bb"),), ()))
        self.assertEqual(game_in(text_of("game hop ring ab 3", "rule 1 aaa bbb", "stuck 0 0"))[4], ((), (("aaa", "bbb"),)))

    def test_a_seventh_rule(self):
        seven = RULE_ROWS[:5] + ["rule 0 ba ab", "rule 0 bbb aaa"]
        self.assertEqual(len(game_in(text_of(ROWS[0], *RULE_ROWS, ROWS[7]))[4][0]), 6)
        self.check(7, ROWS[0], *seven, ROWS[7])
        self.check(7, ROWS[0], *[row.replace("rule 0", "rule 1") for row in seven], ROWS[7])
        self.check(9, ROWS[0], *ROWS[1:3], *[row.replace("rule 0", "rule 1") for row in seven], ROWS[7])

    def test_ends(self):
        self.check_row(5, [
            "", " ", "end", "end 1", "end 1 b", "end 1 b -9 -9", "1 b -9", "End 1 b -9", "ends 1 b -9", " end 1 b -9",
            "end 1 b -9 ", "end  1 b -9", "end 1  b -9", "end 1 b  -9", "end 1  -9", "end 1 b ", "end 3 b -9",
            "end -1 b -9", "end 01 b -9", "end +1 b -9", "end b b -9", "end 1 c -9", "end 1 bc -9", "end 1 bbbbbb -9",
            "end 1 B -9", "end 1 b 0", "end 1 b -0", "end 1 b 00", "end 1 b 10", "end 1 b -10", "end 1 b 09", "end 1 b -09",
            "end 1 b +9", "end 1 b --9", "end 1 b - 9", "end 1 b -", "end 1 b 9.", "end 1 b x", "end 1 -9 b",
            "end\t1 b -9", "end 1 b -9\r", "end 1 b \u0669", "end \u0661 b -9", "end 1 b 1_"])

    def test_ends_that_cannot_stand_there(self):
        self.check(5, *ROWS[:5], ROWS[4], *ROWS[5:])
        self.check(5, *ROWS[:5], "end 0 aa 4", *ROWS[5:])
        self.check(5, *ROWS[:5], "end 0 aa 2", *ROWS[5:])
        self.check(5, *ROWS[:5], "end 0 a 5", *ROWS[5:])
        self.check(5, *ROWS[:4], ROWS[5], ROWS[4], *ROWS[6:])
        self.check(6, *ROWS[:5], ROWS[6], ROWS[5], ROWS[7])
        self.check(8, *ROWS, "end 2 b 1")
        self.check(2, ROWS[0], ROWS[4], *ROWS[1:4], *ROWS[5:])

    def test_a_seventh_end(self):
        seven = END_ROWS[:5] + ["end 2 ab 5", "end 2 bbbbb 5"]
        self.assertEqual(len(game_in(text_of(ROWS[0], *END_ROWS, ROWS[7]))[5]), 6)
        self.check(7, ROWS[0], *seven, ROWS[7])
        self.check(10, *ROWS[:4], *seven, ROWS[7])

    def test_stuck(self):
        self.check_row(7, [
            "", " ", "stuck", "stuck 0", "stuck 0 -9 0", "0 -9", "Stuck 0 -9", "stucks 0 -9", " stuck 0 -9", "stuck 0 -9 ",
            "stuck  0 -9", "stuck 0  -9", "stuck  -9", "stuck 0 ", "stuck 10 -9", "stuck 0 -10", "stuck 0 10",
            "stuck -10 0", "stuck -0 -9", "stuck 0 -0", "stuck 00 -9", "stuck 0 -09", "stuck +1 0", "stuck 0 --9",
            "stuck a b", "stuck 0,-9", "stuck\t0 -9", "stuck 0 -9\r", "stuck \u0660 0", "stuck 0 1_", "rule 1 bb aa",
            "end 0 b 2", "end 2 a 1"])

    def test_stuck_wanting(self):
        for many in range(1, 8):
            self.check(many, *ROWS[:many])

    def test_rows_behind_stuck(self):
        for row in ("", " ", "stuck 0 -9", "stuck 0 0", "end 2 b 1", "rule 0 bb aa", "x"):
            self.check(8, *ROWS, row)
            self.check(8, *ROWS, row, "")
            self.check(2, ROWS[0], ROWS[7], row)

    def test_stuck_too_soon(self):
        self.check(2, ROWS[0], ROWS[7], *ROWS[1:7])
        self.check(6, *ROWS[:5], ROWS[7], *ROWS[5:7])

    def test_other_breaks_are_none(self):
        for sign in ("\r", "\r\n", "\x0b", "\x0c", "\x1c", "\u2028", "\x85"):
            text = sign.join(ROWS)
            with self.assertRaises(BadRow) as caught:
                game_in(text)
            self.assertEqual(caught.exception.what, 0)
            self.check(len(ROWS) - 1, *ROWS[:-1], ROWS[-1] + sign)

    def test_the_first_of_several(self):
        self.check(2, *ROWS[:2], "rule 0 b c", "rule 1 a a", "", "stuck")
        self.check(0, "game hop ring .ab 9", "rule 0 b c")
        self.check(3, *ROWS[:3], "x", *ROWS[4:7])

    def test_row_by_row(self):
        for at in range(8):
            self.check(at if at < 7 else 8, *ROWS[:at], "nonsense" if at < 7 else ROWS[7], *ROWS[at:])
        for at in range(7):
            rows = ROWS[:at] + ROWS[at + 1:]
            want = bad_row("\n".join(rows))
            if want is None:
                self.assertIs(is_game(game_in("\n".join(rows))), True)
            else:
                self.check(want, *rows)


class Spoilt(unittest.TestCase):
    """Texts spoilt in all ways, against the first row up to which no game's text begins like this."""

    def told(self, text):
        try:
            game = game_in(text)
        except BadRow as refusal:
            return refusal.what
        self.assertEqual(game_text(game), text)
        self.assertIs(is_game(game), True)
        return None

    def spoilt(self, dice, text):
        return spoilt(dice, text, " 0129-.abxz\n", ["0", "1", "2", "3", "-1", "ab", "a", ".", "", "-0", "07"])

    def test_spoilt(self):
        dice = random.Random(7)
        for game in random_games(52, 400, 5, 3) + [GAME] * 300:
            text = self.spoilt(dice, game_text(game))
            self.assertEqual(self.told(text), bad_row(text), repr(text))

    def test_spoilt_twice(self):
        dice = random.Random(8)
        for game in random_games(53, 200, 5, 3) + [GAME] * 200:
            text = self.spoilt(dice, self.spoilt(dice, game_text(game)))
            self.assertEqual(self.told(text), bad_row(text), repr(text))


if __name__ == "__main__":
    unittest.main()
