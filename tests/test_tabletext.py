import random
import unittest

from solvedplay.errors import BadRow
from solvedplay.solving import solved
from solvedplay.tabletext import table_in, table_text
from tests.asking import ROUND, STUCK, WALK, refused, small_games
from tests.oracle import all_standings, game_of, listed, some_standings
from tests.samples import FOUR_HUNDRED
from tests.spoiling import RowsRefused, bad_row, plain_number, spoilt

GAME = game_of(".ab", 3)
ROWS = ["0 ..a 0 -", "0 .ab -9 400", "0 bbb 0 0", "1 ... 9 17", "1 a.b 3 0"]
TABLE = [((0, "..a"), 0, None), ((0, ".ab"), -9, 400), ((0, "bbb"), 0, 0), ((1, "..."), 9, 17), ((1, "a.b"), 3, 0)]
TEXT = "\n".join(ROWS)


def plain_row(game, row):
    """The row by the words of the document; None where it isn't so written."""
    words = row.split(" ")
    if len(words) != 4 or words[0] not in ("0", "1") or len(words[1]) != game[3] or not set(words[1]) <= set(game[2]):
        return None
    worth, far = plain_number(words[2]), plain_number(words[3])
    if worth is None or not -9 <= worth <= 9:
        return None
    if words[3] == "-":
        return ((int(words[0]), words[1]), worth, None) if worth == 0 else None
    return ((int(words[0]), words[1]), worth, far) if far is not None and 0 <= far <= 400 else None


def is_table(game, rows):
    found = [plain_row(game, row) for row in rows]
    if None in found:
        return False
    return all(one[0] < other[0] for one, other in zip(found, found[1:]))


class Texts(unittest.TestCase):
    def test_text(self):
        self.assertEqual(table_text(TABLE), TEXT)
        self.assertEqual(table_text(rows=TABLE), TEXT)
        self.assertEqual(table_text(listed(TABLE)), TEXT)
        self.assertEqual(table_text(tuple(TABLE)), TEXT)

    def test_no_rows(self):
        self.assertEqual(table_text([]), "-")
        self.assertEqual(table_text(()), "-")
        self.assertEqual(table_in(GAME, "-"), [])
        self.assertIs(type(table_in(GAME, "-")), list)

    def test_back(self):
        for told in (table_in(GAME, TEXT), table_in(game=GAME, text=TEXT), table_in(listed(GAME), TEXT)):
            self.assertEqual(repr(told), repr(TABLE))

    def test_of_what_solved_tells(self):
        for number, game in enumerate(small_games(141, 30) + [WALK]):
            for begins in ([], some_standings(number, game, 2)):
                table = solved(game, begins)
                self.assertEqual(repr(table_in(game, table_text(table))), repr(table))
        for game, begin in FOUR_HUNDRED:
            table = solved(game, [begin])
            self.assertEqual(repr(table_in(game, table_text(table))), repr(table))
        self.assertEqual(table_text(solved(ROUND, [(1, "cc"), (0, "aa")])),
                         "0 aa 0 -\n0 bb 0 -\n1 ab 0 -\n1 ba 0 -\n1 cc -7 0")

    def test_whether_it_is_solved_is_no_matter(self):
        for far in range(401):
            for worth in (-9, -1, 0, 1, 9):
                self.assertEqual(table_in(STUCK, f"1 x. {worth} {far}"), [((1, "x."), worth, far)])
        for worth in range(-9, 10):
            self.assertEqual(table_in(STUCK, f"0 .. {worth} 1"), [((0, ".."), worth, 1)])

    def test_all_standings(self):
        table = [(standing, 0, None) for standing in all_standings(GAME)]
        self.assertEqual(table_in(GAME, table_text(sorted(table))), sorted(table))

    def test_told_lists_are_the_askers_own(self):
        one, other = table_in(GAME, TEXT), table_in(GAME, TEXT)
        one.clear()
        none = table_in(GAME, "-")
        none.append("changed")
        self.assertEqual((other, table_in(GAME, TEXT), table_in(GAME, "-")), (TABLE, TABLE, []))


class Refused(RowsRefused, unittest.TestCase):
    ROWS = ROWS

    def read(self, text):
        return table_in(GAME, text)

    def test_nothing_with_other_rows(self):
        self.check(0, "-", *ROWS)
        self.check(0, "-", "-")
        self.check(0, "-", "")
        self.check(5, *ROWS, "-")
        self.check(2, *ROWS[:2], "-", *ROWS[2:])
        for text in (" -", "- ", "--", "-\n", "\n-", "- - - -"):
            self.check(0, *text.split("\n"))

    def test_side(self):
        self.check_row(1, [f"{side} .ab -9 400" for side in ("2", "-1", "00", "01", "-0", "+0", "a", "", "-", "\u0660", "0.")])

    def test_row(self):
        self.check_row(1, [f"0 {row} -9 400" for row in (".a", ".abb", "", ".ac", ".aB", "...x", "-", "a-b", "000")])

    def test_worth(self):
        self.check_row(1, [f"0 .ab {worth} 400" for worth in (
            "10", "-10", "09", "-09", "00", "-0", "+9", "--9", "-", "", "9.", "x", "9-", "- 9", "1_", "\u0669", "99999",
            "-" * 50, "9" * 5000)])

    def test_far(self):
        self.check_row(1, [f"0 .ab -9 {far}" for far in (
            "401", "-1", "-0", "00", "0400", "004", "+4", "", "4.", "x", "1000", "4_0", "\u0664", "9" * 5000, "--", "-400")])
        self.check_row(1, ["0 .ab 0 401", "0 .ab 0 -0", "0 .ab 0 --", "0 .ab 0 00", "0 .ab 0 None"])

    def test_none_of_a_worth_not_nought(self):
        for worth in range(-9, 10):
            if worth != 0:
                self.check_row(1, [f"0 .ab {worth} -"])
        self.assertEqual(table_in(GAME, "0 .ab 0 -"), [((0, ".ab"), 0, None)])

    def test_words(self):
        self.check_row(1, ["0", "0 .ab", "0 .ab -9", "0 .ab -9 400 0", " 0 .ab -9 400", "0 .ab -9 400 ", "0  .ab -9 400",
                           "0 .ab  -9 400", "0 .ab -9  400", "0\t.ab -9 400", "0 .ab -9 400\r", ".ab 0 -9 400",
                           "0 .ab 400 -9", "table 0 .ab -9 400"])

    def test_rising(self):
        for at in range(5):
            self.check(at + 1, *ROWS[:at + 1], *ROWS[at:])
        self.check(1, *ROWS[::-1])
        self.check(2, ROWS[0], ROWS[2], ROWS[1], *ROWS[3:])
        self.check(1, ROWS[3], *ROWS[:3], ROWS[4])
        self.check(1, "0 .ab 0 -", "0 .ab 3 4")

    def test_the_first_of_several(self):
        self.check(1, ROWS[0], "x", "y", "")
        self.check(2, ROWS[0], ROWS[1], ROWS[0], "x")

    def test_spoilt(self):
        dice = random.Random(142)
        seen = {True: 0, False: 0}
        games = small_games(143, 60) + [GAME] * 40
        for game in games * 4:
            table = TABLE if game == GAME else solved(game, [dice.choice(all_standings(game))])
            text = table_text(table)
            for number in range(dice.randint(1, 2)):
                text = spoilt(dice, text, " 0149-.abxz\n", ["0", "1", "2", "-1", "401", "400", "-", "", "-0", "07", "..", "bb"])
            want = None if text == "-" else bad_row(text, lambda rows: is_table(game, rows))
            seen[want is None] += 1
            if want is None:
                self.assertEqual(table_text(table_in(game, text)), text)
            else:
                refused(self, BadRow, want, lambda: table_in(game, text))
        self.assertTrue(min(seen.values()) > 20, seen)


if __name__ == "__main__":
    unittest.main()
