import random
import unittest

from solvedplay.errors import BadRow
from solvedplay.papers import paper
from solvedplay.papertext import paper_in, paper_text
from tests.asking import STUCK, WALK, asked_games, refused, small_games
from tests.oracle import all_standings, game_of, listed
from tests.samples import FOUR_HUNDRED
from tests.spoiling import RowsRefused, bad_row, plain_number, spoilt

GAME = game_of(".ab", 3)
ROWS = ["paper -9", "least 0 ..a 0:a>b -", "least 0 .ab - 400", "least 1 ... 2:...>bbb 0", "most 0 .ab 1:ab>ba -",
        "most 0 bbb - -", "most 1 ..a - 12"]
PAPER = (-9, [((0, "..a"), (0, "a", "b"), None), ((0, ".ab"), None, 400), ((1, "..."), (2, "...", "bbb"), 0)],
         [((0, ".ab"), (1, "ab", "ba"), None), ((0, "bbb"), None, None), ((1, "..a"), None, 12)])
TEXT = "\n".join(ROWS)


def is_choice(game, word):
    if word == "-":
        return True
    place, colon, change = word.partition(":")
    old, arrow, new = change.partition(">")
    number = plain_number(place)
    return (colon == ":" and arrow == ">" and number is not None and 0 <= number < game[3]
            and 1 <= len(old) == len(new) <= 3 and set(old + new) <= set(game[2]))


def is_row(game, row):
    words = row.split(" ")
    if len(words) != 5 or words[0] not in ("least", "most") or words[1] not in ("0", "1"):
        return False
    if len(words[2]) != game[3] or not set(words[2]) <= set(game[2]):
        return False
    left = plain_number(words[4])
    return is_choice(game, words[3]) and (words[4] == "-" or left is not None and 0 <= left <= 400)


def is_paper(game, rows):
    words = rows[0].split(" ")
    if len(words) != 2 or words[0] != "paper" or plain_number(words[1]) not in range(-9, 10):
        return False
    if not all(is_row(game, row) for row in rows[1:]):
        return False
    keys = [(row.split(" ")[0], row.split(" ")[1], row.split(" ")[2]) for row in rows[1:]]
    # By chance least is ahead of most as Python compares, too; so all together rise.
    return all(one < other for one, other in zip(keys, keys[1:]))


class Texts(unittest.TestCase):
    def test_text(self):
        self.assertEqual(paper_text(PAPER), TEXT)
        self.assertEqual(paper_text(thing=PAPER), TEXT)
        self.assertEqual(paper_text(listed(PAPER)), TEXT)
        self.assertEqual(paper_text((-9, tuple(PAPER[1]), tuple(PAPER[2]))), TEXT)

    def test_no_rows(self):
        for worth in range(-9, 10):
            self.assertEqual(paper_text((worth, [], [])), f"paper {worth}")
            self.assertEqual(repr(paper_in(GAME, f"paper {worth}")), repr((worth, [], [])))
        self.assertEqual(paper_in(GAME, "\n".join(ROWS[:4])), (-9, PAPER[1], []))
        self.assertEqual(paper_in(GAME, "\n".join(ROWS[:1] + ROWS[4:])), (-9, [], PAPER[2]))

    def test_back(self):
        for told in (paper_in(GAME, TEXT), paper_in(game=GAME, text=TEXT), paper_in(listed(GAME), TEXT)):
            self.assertEqual(repr(told), repr(PAPER))

    def test_of_what_paper_tells(self):
        for game in asked_games(151, 20):
            for standing in all_standings(game)[::5]:
                told = paper(game, standing)
                self.assertEqual(repr(paper_in(game, paper_text(told))), repr(told))
        for game, begin in FOUR_HUNDRED:
            told = paper(game, begin)
            self.assertEqual(repr(paper_in(game, paper_text(told))), repr(told))

    def test_a_papers_text(self):
        self.assertEqual(paper_text(paper(WALK, (0, "b.x."))), "paper 5\nleast 0 b.x. 2:x.>.x 1\nleast 1 b..x - 0\n"
                                                                "most 0 b.x. - -\nmost 1 b..x - -")

    def test_whether_it_stands_is_not_looked_at(self):
        for choice in ("0:a>a", "2:bbb>bbb", "1:.>a", "2:aaa>...", "-"):
            for left in ("-", "0", "400", "7"):
                told = paper_in(GAME, f"paper 3\nleast 0 aaa {choice} {left}\nmost 1 bbb {choice} {left}")
                self.assertEqual([row[0] for row in told[1] + told[2]], [(0, "aaa"), (1, "bbb")])
                self.assertEqual(paper_text(told), f"paper 3\nleast 0 aaa {choice} {left}\nmost 1 bbb {choice} {left}")

    def test_where_rows_are_shorter(self):
        told = paper_in(STUCK, "paper 0\nleast 0 .. 1:...>xxx -")
        self.assertEqual(told, (0, [((0, ".."), (1, "...", "xxx"), None)], []))

    def test_told_lists_are_the_askers_own(self):
        one, other = paper_in(GAME, "paper 1"), paper_in(GAME, "paper 1")
        self.assertEqual(len({id(rows) for rows in one[1:] + other[1:]}), 4)
        one[1].append("changed")
        self.assertEqual((one[2], other, paper_in(GAME, "paper 1")), ([], (1, [], []), (1, [], [])))


class Refused(RowsRefused, unittest.TestCase):
    ROWS = ROWS

    def read(self, text):
        return paper_in(GAME, text)

    def test_head(self):
        self.check_row(0, ["paper", "paper ", "paper  -9", " paper -9", "paper -9 ", "paper -9 0", "Paper -9", "papers -9", "-9",
                           "paper -10", "paper 10", "paper -0", "paper 00", "paper 09", "paper +9", "paper -", "paper x",
                           "paper --9", "paper \u0669", "paper\t-9", "paper -9\r", "paper " + "9" * 5000, ROWS[1], ROWS[4]])

    def test_head_left_out_and_twice(self):
        self.check(0, *ROWS[1:])
        self.check(1, ROWS[0], *ROWS)
        self.check(7, *ROWS, ROWS[0])
        self.check(4, *ROWS[:4], ROWS[0], *ROWS[4:])

    def test_no_rows_and_an_empty_one(self):
        self.check(1, "paper 0", "")
        self.check(0, "-")

    def both(self, rest):
        """Of a row of either sort."""
        self.check_row(2, [f"least {row}" for row in rest])
        self.check_row(5, [f"most {row}" for row in rest])

    def test_word(self):
        self.check_row(2, [f"{word} 0 .ab - 400" for word in ("Least", "leas", "leasts", "", "row", "-", "paper")])
        self.check_row(5, [f"{word} 0 bbb - -" for word in ("Most", "mos", "mosts", "", "row", "-", "least")])

    def test_side(self):
        self.both([f"{side} bbb - -" for side in ("2", "-1", "00", "01", "-0", "+0", "a", "", "-", "\u0660")])

    def test_beads(self):
        self.both([f"0 {beads} - -" for beads in ("bb", "bbbb", "", "bbc", "bbB", "-", "b-b", "000")])

    def test_place(self):
        self.both([f"0 bbb {place}:a>b -" for place in ("3", "-1", "-0", "00", "02", "+1", "", "a", "7", "10", "\u0661", "1_",
                                                        "9" * 5000)])

    def test_old_and_new(self):
        self.both([f"0 bbb 1:{change} -" for change in (
            "a>bb", "aa>b", "aaa>bb", "aaaa>bbbb", ">", "a>", ">b", "", "a", "a>b>a", "a>>b", "c>a", "a>c", "A>b", "a>B", "a=b",
            "a<b", "a:b", "ab", "a> b", "a->b", "a>->")])

    def test_choice(self):
        self.both([f"0 bbb {choice} -" for choice in ("", "--", "-1:a>b", "1a>b", "1:a>b:", ":1:a>b", "1::a>b", ":a>b", "a>b:1",
                                                      "1", "(1,a,b)", "None", "1:-", "-:a>b", "1:a>b-")])

    def test_left(self):
        self.both([f"0 bbb - {left}" for left in ("401", "-1", "-0", "00", "0400", "01", "+4", "", "4.", "x", "1000", "--", "4_0",
                                                  "\u0664", "9" * 5000)])

    def test_blanks_and_words(self):
        self.both([" 0 bbb - -", "0 bbb - - ", "0  bbb - -", "0 bbb  - -", "0 bbb -  -", "0 bbb - - -", "0 bbb -", "0 bbb", "0", "",
                   "0\tbbb - -", "0 bbb - -\r", "bbb 0 - -", "0 - bbb -"])

    def test_rising(self):
        for at in range(1, 7):
            self.check(at + 1, *ROWS[:at + 1], *ROWS[at:])
        self.check(2, ROWS[0], ROWS[2], ROWS[1], ROWS[3])
        self.check(2, ROWS[0], ROWS[3], ROWS[1], ROWS[2])
        self.check(5, *ROWS[:4], ROWS[6], *ROWS[4:6])
        self.check(2, ROWS[0], ROWS[1], "least 0 ..a - 3", *ROWS[2:])
        # They rise each by themselves.
        self.assertEqual(paper_in(GAME, "paper 0\nleast 1 bbb - -\nmost 0 ... - -"),
                         (0, [((1, "bbb"), None, None)], [((0, "..."), None, None)]))

    def test_least_behind_most(self):
        self.check(2, ROWS[0], ROWS[4], ROWS[1])
        self.check(5, *ROWS[:3], *ROWS[4:6], ROWS[3], ROWS[6])
        self.check(7, *ROWS, "least 1 bbb - -")

    def test_the_first_of_several(self):
        self.check(0, "paper", "x")
        self.check(2, *ROWS[:2], "x", "", "y")

    def test_spoilt(self):
        dice = random.Random(152)
        seen = {True: 0, False: 0}
        for game in (small_games(153, 60) + [GAME] * 60) * 4:
            told = PAPER if game == GAME else paper(game, dice.choice(all_standings(game)))
            text = paper_text(told)
            for number in range(dice.randint(1, 2)):
                text = spoilt(dice, text, " 0149-.abxz:>\n",
                              ["0", "1", "2", "-1", "401", "400", "-", "", "-0", "07", "1:a>b", "0:a>a", "least", "most", "paper 3"])
            want = bad_row(text, lambda rows: is_paper(game, rows))
            seen[want is None] += 1
            if want is None:
                self.assertEqual(paper_text(paper_in(game, text)), text)
            else:
                refused(self, BadRow, want, lambda: paper_in(game, text))
        self.assertTrue(min(seen.values()) > 20, seen)


if __name__ == "__main__":
    unittest.main()
