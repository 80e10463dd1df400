"""A desk: a book that is asked by rows, one by one or in runs."""

from solvedplay.answers import answer
from solvedplay.book import Book
from solvedplay.deskrows import deskrow_in
from solvedplay.errors import BadRow, Busy
from solvedplay.reach import MOST

DEEP = 2


class Desk:
    """A book at which rows are asked. Runs work at a twin of it, so that they can be taken back."""

    def __init__(self, *, most=MOST):
        self.most = most
        self.shelf = Book()
        self.entries = []
        self.under_way = 0

    def ask(self, row):
        """Does a row, tells a text."""
        parts = deskrow_in(row)
        if parts[0] == "again":
            raise BadRow(row)
        return answer(self.shelf, self.most, parts)

    def run(self, rows, *, keep=False, deep=DEEP):
        """Does the rows one by one, tells the list of their texts; all is taken back, but where it's kept."""
        staying = self.shelf
        self.shelf = staying.twin()
        try:
            texts = self.run_through(rows, deep)
            if keep:
                staying = self.shelf
        finally:
            self.shelf = staying
        return texts

    def is_open(self):
        """Whether no run is under way."""
        return self.under_way == 0

    def log(self):
        """The list of ("begin", many) and ("end", many) of each run."""
        return list(self.entries)

    def book(self):
        """A Book of its own, as it is now."""
        return self.shelf.twin()

    def run_through(self, rows, deep):
        """A run, the outer one or one within another."""
        self.entries.append(("begin", len(rows)))
        self.under_way += 1
        texts = []
        many = 0
        try:
            for row in rows:
                texts.append(self.step(row, rows[:many], deep))
                many += 1
        finally:
            self.under_way -= 1
            self.entries.append(("end", many))
        return texts

    def step(self, row, ahead, deep):
        """Does a row of a run, ahead being those ahead of it in that run."""
        parts = deskrow_in(row)
        if parts[0] != "again":
            return answer(self.shelf, self.most, parts)
        many = parts[1]
        if many > len(ahead):
            raise BadRow(row)
        if self.under_way >= deep:
            raise Busy(deep)
        self.run_through(ahead[len(ahead) - many:], deep)
        return str(many)
