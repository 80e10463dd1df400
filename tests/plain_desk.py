"""A desk as the document tells it, slow and plain, and rows to ask at it. Nothing here reads the program but its refusals
and what reads and writes texts."""

import copy

from solvedplay.errors import BadChange, BadRow, Busy, NoEdition, NoGame, NoMove, NoStanding, TooMany
from solvedplay.gametext import game_text
from solvedplay.recordtext import record_text
from tests.asking import random_record
from tests.oracle import all_forced, all_standings, look, moves_of, reach_of, solve, word_of
from tests.plain_book import NAMES, PlainBook, random_deed
from tests.plain_deskrows import plain_row
from tests.plain_turnings import led_to
from tests.spoiling import bad_row
from tests.test_mistakes import wanted as wanted_mistakes
from tests.test_recordtext import is_record

REFUSALS = (BadChange, BadRow, Busy, NoEdition, NoGame, NoMove, NoStanding, TooMany)


def move_text(move):
    place, old, new = move
    return f"{place}:{old}>{new}"


def joined(words):
    return " ".join(str(word) for word in words) if words else "-"


class PlainDesk:
    def __init__(self, most=400):
        self.most = most
        self.shelf = PlainBook()
        self.entries = []

    def ask(self, row):
        parts = plain_row(row)
        if parts is None or parts[0] == "again":
            raise BadRow(row)
        return self.answer(*parts)

    def run(self, rows, *, keep=False, deep=2):
        ahead = copy.deepcopy(self.shelf)
        try:
            texts = self.run_within(rows, deep, 1)
        except REFUSALS:
            self.shelf = ahead
            raise
        if not keep:
            self.shelf = ahead
        return texts

    def run_within(self, rows, deep, under_way):
        self.entries.append(("begin", len(rows)))
        texts = []
        try:
            for at, row in enumerate(rows):
                parts = plain_row(row)
                if parts is None or parts[0] == "again" and parts[1] > at:
                    raise BadRow(row)
                if parts[0] == "again":
                    if under_way >= deep:
                        raise Busy(deep)
                    self.run_within(rows[at - parts[1]:at], deep, under_way + 1)
                    texts.append(str(parts[1]))
                else:
                    texts.append(self.answer(*parts))
        finally:
            self.entries.append(("end", len(texts)))
        return texts

    def log(self):
        return list(self.entries)

    def book(self):
        return copy.deepcopy(self.shelf)

    def answer(self, word, *parts):
        book = self.shelf
        if word in ("put", "would", "vary"):
            return joined(getattr(book, word)(*parts))
        if word == "drop":
            book.drop(*parts)
            return "done"
        if word == "undo":
            return "done" if book.undo() else "none"
        if word == "names":
            return joined(book.names())
        if word == "reckoned":
            return str(book.reckoned())
        if word == "worth":
            return joined("-" if part is None else part for part in book.worth(*parts, most=self.most))
        game = book.game(parts[0])
        if word == "text":
            return game_text(game).replace("\n", " / ")
        if word == "editions":
            return str(book.editions(parts[0]))
        if word == "known":
            return str(len(book.known(parts[0])))
        if word == "mistakes":
            return self.mistakes(game, parts[1])
        # Those with an S; where most isn't looked at, there may be as many as there are.
        book.found(parts[0], parts[1], self.most if word in ("line", "round") else 10000)
        return self.asked_of(word, game, *parts[1:])

    def asked_of(self, word, game, standing, deep=None):
        if word == "moves":
            return joined([move_text(move) for move in moves_of(game, standing)])
        if word == "line":
            made, end = self.shelf.line(game[0], standing)
            return joined([move_text(move) for move in made] + [end])
        if word == "round":
            return word_of(game, standing) or "-"
        if word == "alike":
            return joined(min(led_to(game, standing)))
        return joined(look(all_forced(game, reach_of(game, [standing])), standing, deep))

    def mistakes(self, game, text):
        bad = bad_row(text, lambda rows: is_record(game, rows))
        if bad is not None:
            raise BadRow(bad)
        rows = [row.split(" ") for row in text.split("\n")]
        record = ((int(rows[0][1]), rows[0][2]), [(int(place), old, new) for place, old, new in rows[1:]])
        if len(reach_of(game, [record[0]])) > self.most:
            raise TooMany(self.most)
        found = wanted_mistakes(game, solve(game, all_standings(game)), record)
        return joined([f"{number}:{ahead}:{behind}" for number, ahead, behind, made in found])


def outcome(ask, *arguments, **names):
    """What is told, or which refusal with what, shown so that kinds count."""
    try:
        return repr(ask(*arguments, **names))
    except REFUSALS as refusal:
        return (type(refusal), repr(refusal.what))


def random_desk_row(dice, pool, book):
    """A row to ask at a desk that has such a book; now and then one that is refused."""
    if dice.random() < 0.05:
        return dice.choice(["", "undo ", "worth toy 2 ..", "drop", "again 0", "again 99", "mistakes toy x", "known nobody",
                            "vary toy shape",
                            "within toy 0 .. 41", "put toy", "text Toy"])
    if dice.random() < 0.6:
        method, arguments, names = random_deed(dice, pool, book)
        if method in ("put", "would"):
            return f"{method} " + game_text(arguments[0]).replace("\n", " / ")
        if method == "vary":
            return f"vary {arguments[0]} " + joined(arguments[1])
        if method in ("worth", "line"):
            return f"{method} {arguments[0]} " + joined(arguments[1])
        if method != "as_of":
            return joined([method if method != "game" else "text", *arguments])
    name = dice.choice(book.names() or NAMES)
    if name not in book.names():
        return "names"
    game = book.game(name)
    way = dice.choice(["moves", "round", "alike", "within", "mistakes", "mistakes", "reckoned", "names"])
    if way in ("reckoned", "names"):
        return way
    if way == "mistakes":
        return f"mistakes {name} " + record_text(random_record(dice, game, 6)).replace("\n", " / ")
    side, row = dice.choice(all_standings(game))
    return f"{way} {name} {side} {row}" + (f" {dice.randint(0, 6)}" if way == "within" else "")
