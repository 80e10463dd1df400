import random
import unittest

from solvedplay.errors import BadRow
from solvedplay.records import played
from solvedplay.recordtext import record_in, record_text
from tests.asking import LONG, LONGER, RINGED, START, STUCK, WALK, WALKED, random_record, refused, small_games
from tests.oracle import after, all_standings, listed, moves_of
from tests.spoiling import RowsRefused, bad_row, plain_number, spoilt

ROWS = ["from 0 ax..", "1 x. .x", "0 a b", "2 x. .x"]
TEXT = "\n".join(ROWS)


def is_record(game, rows):
    """Whether these rows are a record's text, by the words of the document."""
    words = rows[0].split(" ")
    if len(words) != 3 or words[0] != "from" or words[1] not in ("0", "1"):
        return False
    here = (int(words[1]), words[2])
    if here not in all_standings(game):
        return False
    for row in rows[1:]:
        words = row.split(" ")
        move = (plain_number(words[0]), *words[1:])
        if move not in moves_of(game, here):
            return False
        here = after(game, here, move)
    return True


class Texts(unittest.TestCase):
    def test_text(self):
        self.assertEqual(record_text(WALKED), TEXT)
        self.assertEqual(record_text(record=WALKED), TEXT)
        for record in (listed(WALKED), (START, tuple(WALKED[1])), [START, WALKED[1]]):
            self.assertEqual(record_text(record), TEXT)

    def test_no_moves(self):
        self.assertEqual(record_text(((1, ".x"), [])), "from 1 .x")
        self.assertEqual(repr(record_in(STUCK, "from 1 .x")), repr(((1, ".x"), [])))

    def test_back(self):
        for told in (record_in(WALK, TEXT), record_in(game=WALK, text=TEXT), record_in(listed(WALK), TEXT)):
            self.assertEqual(repr(told), repr(WALKED))

    def test_forty_and_more(self):
        for record in (LONG, LONGER):
            self.assertEqual(repr(record_in(RINGED, record_text(record))), repr(record))

    def test_there_and_back(self):
        dice = random.Random(191)
        for game in small_games(192, 60):
            for number in range(4):
                record = random_record(dice, game, 12)
                told = record_in(game, record_text(record))
                self.assertEqual(repr(told), repr(record))
                self.assertEqual(len(played(game, told)), len(told[1]) + 1)

    def test_cut_behind_each_row(self):
        for many in range(1, 5):
            self.assertEqual(record_in(WALK, "\n".join(ROWS[:many])), (START, WALKED[1][:many - 1]))

    def test_told_lists_are_the_askers_own(self):
        one, other = record_in(WALK, TEXT), record_in(WALK, TEXT)
        one[1].clear()
        self.assertEqual((other, record_in(WALK, TEXT)), (WALKED, WALKED))


class Refused(RowsRefused, unittest.TestCase):
    ROWS = ROWS

    def read(self, text):
        return record_in(WALK, text)

    def test_begin(self):
        self.check_row(0, ["from", "from 0", "from ax..", "from 0 ax.. 0", "From 0 ax..", "fro 0 ax..", "0 ax..", " from 0 ax..",
                           "from 0 ax.. ", "from  0 ax..", "from 0  ax..", "from 2 ax..", "from -1 ax..", "from 00 ax..",
                           "from -0 ax..", "from +0 ax..", "from a ax..", "from  ax..", "from 0 ax.", "from 0 ax...", "from 0 ",
                           "from 0 cx..", "from 0 Ax..", "from ax.. 0", "from\t0 ax..", "from 0 ax..\r", "from \u0660 ax..",
                           "1 x. .x"])

    def test_begin_left_out_and_twice(self):
        self.check(0, *ROWS[1:])
        self.check(1, ROWS[0], *ROWS)
        self.check(4, *ROWS, ROWS[0])

    def test_place(self):
        self.check_row(1, [f"{place} x. .x" for place in ("0", "2", "3", "4", "-1", "-3", "01", "+1", "", "-", "a", "x.", "1.", "\u0661",
                                                          "1_", "5", "400", "9" * 5000)])

    def test_old_and_new(self):
        self.check_row(1, [f"1 {change}" for change in ("x. ..", ".x x.", "x .", "x.. ..x", "x. x.", "x. .X", "c. .c", "x.", " .x",
                                                        "x. ", "x. .x .x", "x.>.x", ".x")])

    def test_blanks_and_words(self):
        self.check_row(1, ["", " ", "1", "1 x.", " 1 x. .x", "1 x. .x ", "1  x. .x", "1 x.  .x", "1\tx. .x", "1 x. .x\r", "x. .x 1",
                           "move 1 x. .x", "1:x.>.x", "-"])

    def test_no_moves_and_an_empty_row(self):
        self.check(1, ROWS[0], "")
        self.check(0, "-")

    def test_a_move_that_cannot_be_made_there(self):
        # Of the other side, where it stands no more, and behind the end.
        self.check(1, ROWS[0], ROWS[2], *ROWS[1:])
        self.check(2, *ROWS[:2], ROWS[1], *ROWS[2:])
        self.check(2, *ROWS[:2], ROWS[3])
        self.check(4, *ROWS, "0 b a")
        self.check(1, "from 1 ax..", *ROWS[1:])
        self.check(1, "from 0 a..x", ROWS[1])
        refused(self, BadRow, 1, lambda: record_in(STUCK, "from 0 ..\n0 . x"))

    def test_the_first_of_several(self):
        self.check(0, "from", "x")
        self.check(2, *ROWS[:2], "x", "", "y")

    def test_spoilt(self):
        dice = random.Random(193)
        seen = {True: 0, False: 0}
        for game in small_games(194, 100) * 3 + [WALK] * 100:
            text = TEXT if game == WALK else record_text(random_record(dice, game, 8))
            for number in range(dice.randint(1, 2)):
                text = spoilt(dice, text, " 0129-.abxz\n", ["0", "1", "2", "-1", "", "-0", "01", ".", "x", "a", "from"])
            want = bad_row(text, lambda rows: is_record(game, rows))
            seen[want is None] += 1
            if want is None:
                self.assertEqual(record_text(record_in(game, text)), text)
            else:
                refused(self, BadRow, want, lambda: record_in(game, text))
        self.assertTrue(min(seen.values()) > 20, seen)


if __name__ == "__main__":
    unittest.main()
