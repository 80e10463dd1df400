"""Texts spoilt in many ways, and the row of them that must be refused."""

from solvedplay.errors import BadRow
from tests.asking import refused


def spoilt(dice, text, signs, words):
    """The text with something otherwise: rows, signs or a word."""
    rows = text.split("\n")
    one, other = dice.randrange(len(rows)), dice.randrange(len(rows))
    at = dice.randrange(len(rows[one]) + 1)
    way = dice.randrange(7)
    if way == 0:
        rows[one], rows[other] = rows[other], rows[one]
    elif way == 1:
        rows.insert(other, rows[one])
    elif way == 2:
        del rows[one]
    elif way == 3:
        rows[one] = rows[one][:at] + dice.choice(signs) + rows[one][at:]
    elif way == 4:
        rows[one] = rows[one][:at] + rows[one][at + 1:]
    elif way == 5:
        parts = rows[one].split(" ")
        parts[dice.randrange(len(parts))] = dice.choice(words)
        rows[one] = " ".join(parts)
    else:
        rows.insert(one, dice.choice(words))
    return "\n".join(rows)


def bad_row(text, is_text):
    """The first row up to which the rows are no such text, by is_text; None where all are one."""
    rows = text.split("\n")
    for at in range(len(rows)):
        if not is_text(rows[:at + 1]):
            return at
    return None


def plain_number(word):
    """The number of a word, where it's written as Python writes it; else None."""
    try:
        return int(word) if str(int(word)) == word else None
    except ValueError:
        return None


class RowsRefused:
    """For tests of a text's rows: the class has ROWS, those of a text that is right, and read(text)."""

    def check(self, row, *rows):
        """Of the text of these rows it's this row that is refused."""
        refused(self, BadRow, row, lambda: self.read("\n".join(rows)))

    def check_row(self, at, rows):
        """Of each of these, in the place of the row of ROWS, it's this row that is refused."""
        for row in rows:
            self.check(at, *self.ROWS[:at], row, *self.ROWS[at + 1:])
            self.check(at, *self.ROWS[:at], row)

    def test_no_text(self):
        self.check(0, "")
        self.check(0, "", "")
        self.check(0, "", *self.ROWS)
        self.check(0, " ")

    def test_a_line_feed_at_the_end_and_empty_rows(self):
        self.check(len(self.ROWS), *self.ROWS, "")
        for at in range(len(self.ROWS) + 1):
            self.check(at, *self.ROWS[:at], "", *self.ROWS[at:])
            self.check(at, *self.ROWS[:at], " ", *self.ROWS[at:])
            self.check(at, *self.ROWS[:at], "-", *self.ROWS[at:])
