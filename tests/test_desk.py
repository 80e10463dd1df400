import random
import unittest

from solvedplay.ahead import within
from solvedplay.book import Book
from solvedplay.desk import DEEP, Desk
from solvedplay.errors import BadChange, BadRow, Busy, NoGame, NoStanding, TooMany
from solvedplay.gametext import game_text
from solvedplay.reach import MOST
from solvedplay.turnings import least_alike
from tests.asking import FORKED, LONG, RINGED, ROUND, START, STUCK, TAKING, WALK, refused
from tests.oracle import listed
from tests.plain_book import NAMES, games_of, view
from tests.plain_desk import PlainDesk, outcome, random_desk_row
from tests.plain_turnings import EXCHANGED, MIRRORED
from tests.samples import ONE_MORE
from tests.test_mistakes import FORTY, SNATCH


def put_row(game, name="toy", word="put"):
    return f"{word} " + game_text((name,) + game[1:]).replace("\n", " / ")


def desk_of(*games, **most):
    """A desk with games under the names toy, hop and walk."""
    desk = Desk(**most)
    for name, game in zip(("toy", "hop", "walk"), games):
        desk.ask(put_row(game, name))
    return desk


def undos(book):
    """How often a book can be undone."""
    many = 0
    while book.undo():
        many += 1
    return many


def whole(desk):
    """All that a desk tells of its book, what may be undone, too."""
    book = desk.book()
    views = [view(book)]
    while book.undo():
        views.append(view(book))
    return views


class Asked(unittest.TestCase):
    def check(self, desk, row, text):
        self.assertEqual(repr(desk.ask(row)), repr(text))

    def test_put_would_and_vary(self):
        desk = Desk()
        self.check(desk, put_row(WALK, word="would"), "0 0")
        self.check(desk, put_row(WALK), "0 0")
        self.check(desk, put_row(WALK), "1 0")
        desk.ask("worth toy 0 ax..")
        self.check(desk, put_row(WALK, word="would"), "2 4")
        self.check(desk, "vary toy end 0 .x. 4", "2 1")
        self.check(desk, put_row(STUCK), "3 0")
        self.assertEqual(desk.book().game("toy"), STUCK)

    def test_drop_and_undo(self):
        desk = desk_of(WALK)
        self.check(desk, "drop toy", "done")
        self.check(desk, "undo", "done")
        self.check(desk, "undo", "done")
        self.check(desk, "undo", "none")
        self.check(desk, "undo", "none")

    def test_names(self):
        desk = Desk()
        self.check(desk, "names", "-")
        desk.ask(put_row(WALK, "toy"))
        self.check(desk, "names", "toy")
        desk.ask(put_row(WALK, "hop"))
        desk.ask(put_row(WALK, "zzzzzzzz"))
        self.check(desk, "names", "hop toy zzzzzzzz")

    def test_text(self):
        desk = desk_of(TAKING)
        self.check(desk, "text toy", "game toy line .x 4 / rule 0 x . / rule 1 x . / stuck -3 4")
        self.check(desk, "put " + desk.ask("text toy"), "1 0")

    def test_numbers(self):
        desk = desk_of(WALK, TAKING)
        self.check(desk, "reckoned", "0")
        self.check(desk, "known toy", "0")
        self.check(desk, "editions toy", "1")
        desk.ask("worth toy 0 ax..")
        desk.ask("worth hop 0 x...")
        desk.ask("vary toy stuck 0 3")
        self.check(desk, "reckoned", "6")
        self.check(desk, "known toy", "4")
        self.check(desk, "known hop", "2")
        self.check(desk, "editions toy", "2")

    def test_moves(self):
        desk = desk_of(FORKED)
        self.check(desk, "moves toy 0 ax..", "1:x.>.. 1:x.>.x")
        self.check(desk, "moves toy 1 ax..", "0:a>b")
        self.check(desk, "moves toy 0 ....", "-")

    def test_worth(self):
        desk = desk_of(WALK, ROUND, STUCK)
        self.check(desk, "worth toy 0 ax..", "5 3")
        self.check(desk, "worth hop 0 aa", "0 -")
        self.check(desk, "worth hop 0 cc", "-7 0")
        self.check(desk, "worth walk 1 xx", "0 0")

    def test_line(self):
        desk = desk_of(WALK, RINGED, STUCK)
        self.check(desk, "line toy 0 ax..", "1:x.>.x 0:a>b 2:x.>.x end")
        self.check(desk, "line hop 0 x..", "0:x.>.x 1:x.>.x 2:x.>.x 0:x.>.x 1:x.>.x 2:x.>.x round")
        self.check(desk, "line walk 0 ..", "end")
        self.check(desk, "known toy", "0")

    def test_round(self):
        desk = desk_of(WALK, RINGED, ROUND)
        self.check(desk, "round toy 0 ax..", "-")
        self.check(desk, "round hop 0 x..", "must")
        self.check(desk, "round walk 0 cc", "-")
        desk = desk_of(TAKING[:6] + ((0, 0),), ROUND[:5] + ((), (0, 0)))
        self.check(desk, "round toy 0 xx..", "never")
        self.check(desk, "round hop 0 aa", "may")

    def test_alike(self):
        desk = desk_of(MIRRORED, EXCHANGED)
        self.check(desk, "alike toy 0 x...", "0 ...x")
        self.check(desk, "alike hop 1 x..", "0 ..x")
        self.check(desk, "alike hop 1 x.x", "0 x.x")

    def test_within(self):
        desk = desk_of(WALK)
        for deep in (0, 1, 2, 3, 40):
            low, high = within(WALK, START, deep)
            self.check(desk, f"within toy 0 ax.. {deep}", f"{low} {high}")
        self.check(desk, "within toy 0 ax.. 2", "-9 9")
        self.check(desk, "within toy 0 ax.. 3", "5 5")

    def test_mistakes(self):
        desk = desk_of(SNATCH, FORKED, RINGED)
        self.check(desk, "mistakes toy from 0 aa / 0 a b / 0 b a", "0:5:-5 1:-5:5")
        self.check(desk, "mistakes toy from 1 aa / 0 a b", "0:-5:5")
        self.check(desk, "mistakes toy from 0 aa", "-")
        self.check(desk, "mistakes hop from 0 ax.. / 1 x. ..", "0:5:2")
        forty = " / ".join(["from 0 aa"] + [f"{place} {old} {new}" for place, old, new in FORTY[1]])
        self.assertEqual(desk.ask(f"mistakes toy {forty}").split(" ")[39], "39:-5:5")
        forty = " / ".join(["from 0 x.."] + [f"{place} {old} {new}" for place, old, new in LONG[1]])
        self.check(desk, f"mistakes walk {forty}", "-")
        self.check(desk, "reckoned", "0")

    def test_names_of_arguments(self):
        desk = Desk(most=4)
        self.assertEqual(desk.ask(row="names"), "-")
        self.assertEqual(desk.run(rows=["names"], keep=False, deep=2), ["-"])
        with self.assertRaises(TypeError):
            Desk(4)
        with self.assertRaises(TypeError):
            desk.run(["names"], True)
        self.assertEqual(DEEP, 2)


class Refused(unittest.TestCase):
    def check(self, desk, refusal, what, *rows):
        for row in rows:
            for ask in (lambda: desk.ask(row), lambda: desk.run([row]), lambda: desk.run(["names", row, "names"], keep=True)):
                ahead = whole(desk)
                refused(self, refusal, what, ask)
                self.assertEqual(whole(desk), ahead)
                self.assertIs(desk.is_open(), True)

    def test_bad_rows(self):
        desk = desk_of(WALK)
        for row in ("", " ", "undo ", "worth toy", "worth toy 0 x", "worth toy 2 ax..", "vary toy shape", "put toy",
                    "within toy 0 ax.. 41",
                    "known Toy", "mistakes toy", "mistakes toy ", "names\n", "again", "again 0", "again 01", "book"):
            self.check(desk, BadRow, row, row)

    def test_again_is_no_row_to_ask(self):
        desk = desk_of(WALK)
        for row in ("again 1", "again 400"):
            refused(self, BadRow, row, lambda: desk.ask(row))

    def test_no_game(self):
        desk = desk_of(WALK)
        self.check(desk, NoGame, "hop", "vary hop shape ring", "vary hop shape knot", "drop hop", "text hop", "editions hop",
                   "known hop",
                   "moves hop 0 ax..", "worth hop 0 ax..", "line hop 0 ax..", "round hop 0 ax..", "alike hop 0 ax..",
                   "within hop 0 ax.. 3",
                   "mistakes hop from 0 ax..", "mistakes hop x", "worth hop 0 zz", "moves hop 0 zz", "within hop 0 zz 3")

    def test_no_standing(self):
        desk = desk_of(WALK, STUCK)
        for word in ("moves", "worth", "line", "round", "alike"):
            self.check(desk, NoStanding, (0, "ax."), f"{word} toy 0 ax.")
            self.check(desk, NoStanding, (1, "zx.."), f"{word} toy 1 zx..")
            self.check(desk, NoStanding, START, f"{word} hop 0 ax..")
        self.check(desk, NoStanding, (0, "ax."), "within toy 0 ax. 3")

    def test_bad_changes(self):
        desk = desk_of(WALK)
        for change in (("shape", "line"), ("shape", "knot"), ("rule", 2, "x", "."), ("rule", 0, "x.", ".x"),
                       ("norule", 0, "a", "b"),
                       ("end", 2, "..x", 4), ("end", 1, "a", 0), ("end", 1, "a", 10), ("noend", 2, "..x", 4), ("stuck", 0, 0),
                       ("stuck", -400, 400), ("rule", 0, "q", "r")):
            self.check(desk, BadChange, change, "vary toy " + " ".join(str(part) for part in change))

    def test_too_many(self):
        desk = desk_of(WALK, most=3)
        self.check(desk, TooMany, 3, "worth toy 0 ax..", "line toy 0 ax..", "round toy 0 ax..", "mistakes toy from 0 ax..",
                   "mistakes toy from 0 ax.. / 1 x. .x")
        # These have no most.
        for row in ("moves toy 0 ax..", "alike toy 0 ax..", "within toy 0 ax.. 3"):
            desk.ask(row)
        self.assertEqual(desk.ask("worth toy 1 a.x."), "5 2")
        # Known ones count.
        self.check(desk, TooMany, 3, "worth toy 0 ax..")
        self.assertEqual(desk_of(WALK, most=4).ask("worth toy 0 ax.."), "5 3")

    def test_most(self):
        self.assertEqual(MOST, 400)
        for game, (side, row) in ONE_MORE:
            self.check(desk_of(game), TooMany, 400, f"worth toy {side} {row}", f"line toy {side} {row}",
                       f"round toy {side} {row}",
                       f"mistakes toy from {side} {row}")
            self.assertNotEqual(desk_of(game, most=401).ask(f"worth toy {side} {row}"), "")

    def test_mistakes(self):
        desk = desk_of(WALK, most=3)
        # The record's rows go ahead of how many are reached.
        for text, row in (("x", 0), (" ", 0), (" / ", 0), ("from 0 ax. / 1 x. .x", 0), ("from 0 ax.. / ", 1),
                          ("from 0 ax.. / 1 x. ..", 1),
                          ("from 0 ax.. / 1 x. .x / 0 a b / 1 x", 3), ("from 0 ax.. ", 0), (" from 0 ax..", 0),
                          ("from 0 ax.. / / ", 1),
                          ("from 0 ax.. / 1 x. .x / ", 2), ("/", 0), ("from 0 zx..", 0)):
            self.check(desk, BadRow, row, f"mistakes toy {text}")


class Run(unittest.TestCase):
    def test_no_rows(self):
        desk = desk_of(WALK)
        ahead = whole(desk)
        for keep in (False, True):
            told = desk.run([], keep=keep)
            self.assertEqual(told, [])
            told.append("changed")
        self.assertEqual(desk.log(), [("begin", 0), ("end", 0)] * 2)
        self.assertEqual(whole(desk), ahead)

    def test_texts(self):
        rows = [put_row(WALK), "worth toy 0 ax..", "vary toy end 0 .x. 4", "known toy", "undo", "known toy", "reckoned",
                "names", "drop toy",
                "names"]
        self.assertEqual(Desk().run(rows), ["0 0", "5 3", "1 1", "1", "done", "4", "4", "toy", "done", "-"])

    def test_taken_back_but_where_it_is_kept(self):
        rows = [put_row(WALK), "worth toy 0 ax..", "undo", "undo", put_row(TAKING, "hop"), "worth hop 0 xx..", "drop hop"]
        for keep in (False, True):
            desk = desk_of(FORKED)
            desk.ask("worth toy 0 ax..")
            ahead = whole(desk)
            self.assertEqual(desk.run(rows, keep=keep), ["1 1", "5 3", "done", "done", "0 0", "-3 2", "done"])
            if keep:
                self.assertEqual((desk.ask("names"), desk.ask("reckoned")), ("-", str(6 + 3 + 4)))
                self.assertEqual(undos(desk.book()), 2)
                desk.ask("undo")
                self.assertEqual((desk.ask("names"), desk.ask("known hop")), ("hop", "4"))
            else:
                self.assertEqual(whole(desk), ahead)

    def test_what_is_known_and_reckoned_is_taken_back(self):
        desk = desk_of(WALK)
        self.assertEqual(desk.run(["worth toy 0 ax..", "reckoned", "known toy"]), ["5 3", "4", "4"])
        self.assertEqual((desk.ask("reckoned"), desk.ask("known toy")), ("0", "0"))
        self.assertEqual(desk.run(["worth toy 0 ax..", "reckoned", "known toy"], keep=True), ["5 3", "4", "4"])
        self.assertEqual((desk.ask("reckoned"), desk.ask("known toy")), ("4", "4"))

    def test_refused_at_each_place(self):
        rows = [put_row(WALK), "worth toy 0 ax..", "vary toy end 0 .x. 4", "worth toy 0 ax..", "undo", put_row(TAKING, "hop"),
                "drop toy"]
        bad = [("drop", BadRow, "drop"), ("text nobody", NoGame, "nobody"), ("worth a 0 xxxxx", NoStanding, (0, "xxxxx")),
               ("vary a shape line", BadChange, ("shape", "line")), ("worth a 0 xxxx", TooMany, 15),
               ("mistakes a from 0 xxxx / 0 a b", BadRow, 1),
               ("again 99", BadRow, "again 99"), ("mistakes a from 0 xxxx", TooMany, 15)]
        for row, refusal, what in bad:
            for at in range(len(rows) + 1):
                for keep in (False, True):
                    desk = desk_of(FORKED, most=15)
                    desk.ask(put_row(TAKING, "a"))
                    ahead = whole(desk)
                    refused(self, refusal, what, lambda: desk.run(rows[:at] + [row] + rows[at:], keep=keep))
                    self.assertEqual(whole(desk), ahead)
                    self.assertIs(desk.is_open(), True)
                    self.assertEqual(desk.log(), [("begin", 8), ("end", at)])
                    self.assertEqual(desk.run(rows[:3]), ["1 0", "5 3", "2 1"])

    def test_rows_are_not_looked_at_ahead(self):
        desk = Desk()
        refused(self, NoGame, "toy", lambda: desk.run(["drop toy", "no row"]))
        refused(self, BadRow, "no row", lambda: desk.run(["names", "no row", "drop toy"]))

    def test_handed_in_is_not_kept_and_stays(self):
        desk = Desk()
        rows = [put_row(WALK), "worth toy 0 ax..", "again 1"]
        ahead = list(rows)
        told = desk.run(rows, keep=True)
        self.assertEqual(rows, ahead)
        rows.clear()
        told.clear()
        self.assertEqual(desk.run(("names", "known toy", "again 2")), ["toy", "4", "2"])
        self.assertEqual(desk.log(), [("begin", 3), ("begin", 1), ("end", 1), ("end", 3), ("begin", 3), ("begin", 2),
                                      ("end", 2), ("end", 3)])

    def test_thirty_rows(self):
        desk = desk_of(WALK)
        rows = ["vary toy stuck 0 1", "vary toy stuck 0 0", "worth toy 0 ax.."] * 8 + ["again 3", "names", "names", "again 2",
                                                                                       "names", "again 29"]
        self.assertEqual(desk.run(rows, keep=True, deep=3)[24:], ["3", "toy", "toy", "2", "toy", "29"])
        self.assertEqual(desk.log()[:5] + desk.log()[5:][::6], [
            ("begin", 30), ("begin", 3), ("end", 3), ("begin", 2), ("end", 2), ("begin", 29), ("end", 30)])
        self.assertEqual(len(desk.log()), 12)
        self.assertEqual(desk.ask("editions toy"), str(1 + 2 * (16 + 2)))


class Again(unittest.TestCase):
    def test_one_row(self):
        desk = desk_of(WALK)
        self.assertEqual(desk.run(["vary toy stuck 0 1", "undo", "again 1", "names"], keep=True), ["1 0", "done", "1", "-"])
        self.assertEqual(desk.log(), [("begin", 4), ("begin", 1), ("end", 1), ("end", 4)])

    def test_several_rows(self):
        desk = desk_of(WALK)
        rows = ["editions toy", put_row(WALK), "worth toy 0 ax..", put_row(FORKED), "again 3", "editions toy"]
        self.assertEqual(desk.run(rows), ["1", "1 0", "5 3", "2 1", "3", "5"])
        self.assertEqual(desk.log(), [("begin", 6), ("begin", 3), ("end", 3), ("end", 6)])
        self.assertEqual(desk.ask("editions toy"), "1")

    def test_all_rows_and_one_more(self):
        desk = desk_of(WALK)
        self.assertEqual(desk.run([put_row(WALK), put_row(WALK), "again 2", "editions toy"]), ["1 0", "2 0", "2", "5"])
        for many in (3, 4, 400):
            refused(self, BadRow, f"again {many}", lambda: desk.run([put_row(WALK), put_row(WALK), f"again {many}", "names"]))
            self.assertEqual(desk.log()[-2:], [("begin", 4), ("end", 2)])
        refused(self, BadRow, "again 1", lambda: desk.run(["again 1"]))
        refused(self, BadRow, "again 1", lambda: desk.run(["again 1"], deep=1))
        self.assertEqual(desk.log()[-2:], [("begin", 1), ("end", 0)])

    def test_kept_with_the_outer_run(self):
        desk = desk_of(WALK)
        desk.run([put_row(WALK), "again 1"], keep=True)
        self.assertEqual((desk.ask("editions toy"), undos(desk.book())), ("3", 3))
        desk.run([put_row(WALK), "again 1"])
        self.assertEqual((desk.ask("editions toy"), undos(desk.book())), ("3", 3))

    def test_again_rows_among_them(self):
        desk = desk_of(WALK)
        # put, put; again 1 and put once more; then again 3 does put, again 1 and put: three puts.
        rows = [put_row(WALK), put_row(WALK), "again 1", put_row(WALK), "again 3", "editions toy"]
        refused(self, Busy, 2, lambda: desk.run(rows))
        self.assertEqual(desk.log(), [("begin", 6), ("begin", 1), ("end", 1), ("begin", 3), ("end", 1), ("end", 4)])
        self.assertEqual(desk.run(rows, deep=3)[4:], ["3", str(1 + 4 + 3)])
        self.assertEqual(desk.log()[6:], [("begin", 6), ("begin", 1), ("end", 1), ("begin", 3), ("begin", 1), ("end", 1),
                                          ("end", 3), ("end", 6)])

    def test_what_is_ahead_among_these_alone(self):
        desk = desk_of(WALK)
        # again 2 has two rows ahead of it, but just one among the two that are done once more.
        rows = [put_row(WALK), put_row(WALK), "again 2", "again 2"]
        refused(self, BadRow, "again 2", lambda: desk.run(rows, deep=3))
        self.assertEqual(desk.log(), [("begin", 4), ("begin", 2), ("end", 2), ("begin", 2), ("end", 1), ("end", 3)])
        # That goes ahead of Busy.
        refused(self, BadRow, "again 2", lambda: desk.run(rows, deep=2))
        refused(self, Busy, 1, lambda: desk.run(rows, deep=1))
        refused(self, BadRow, "again 1", lambda: desk.run([put_row(WALK), "again 1", "again 1"], deep=2))
        self.assertIs(desk.is_open(), True)

    def test_deep(self):
        rows = ["names", "again 1", "names", "again 3", "names", "again 5"]
        # Within again 5 there's again 3, and within that again 1: four runs under way.
        for deep in (1, 2, 3):
            desk = desk_of(WALK)
            refused(self, Busy, deep, lambda: desk.run(rows, deep=deep))
            self.assertIs(desk.is_open(), True)
        self.assertEqual(desk_of(WALK).run(rows, deep=4), ["toy", "1", "toy", "3", "toy", "5"])
        for deep, many in ((1, 1), (2, 3), (3, 5)):
            desk = desk_of(WALK)
            self.assertEqual(len(desk.run(rows[:many], deep=deep)), many)
            refused(self, Busy, deep, lambda: desk.run(rows[:many + 1], deep=deep))
            self.assertIs(desk.is_open(), True)
            self.assertEqual(desk.log()[-1], ("end", many))
        refused(self, Busy, 2, lambda: desk_of(WALK).run(rows[:4]))
        self.assertEqual(desk_of(WALK).run(rows[:2]), ["toy", "1"])

    def test_refused_within(self):
        desk = desk_of(WALK)
        ahead = whole(desk)
        # Once more there's no game to be dropped.
        rows = ["worth toy 0 ax..", put_row(TAKING, "hop"), "drop toy", "names", "again 2"]
        refused(self, NoGame, "toy", lambda: desk.run(rows, keep=True))
        self.assertEqual(desk.log(), [("begin", 5), ("begin", 2), ("end", 0), ("end", 4)])
        self.assertEqual(whole(desk), ahead)
        self.assertIs(desk.is_open(), True)
        rows = ["worth toy 0 ax..", "undo", "names", put_row(STUCK), "again 4", "names"]
        refused(self, NoStanding, START, lambda: desk.run(rows, keep=True))
        self.assertEqual(desk.log()[4:], [("begin", 6), ("begin", 4), ("end", 0), ("end", 4)])
        self.assertEqual(whole(desk), ahead)


class Log(unittest.TestCase):
    def test_all_runs(self):
        desk = Desk()
        self.assertEqual(desk.log(), [])
        desk.ask(put_row(WALK))
        self.assertEqual(desk.log(), [])
        desk.run(["names"])
        desk.run(["names", "names"], keep=True)
        with self.assertRaises(NoGame):
            desk.run(["names", "drop hop", "names"])
        want = [("begin", 1), ("end", 1), ("begin", 2), ("end", 2), ("begin", 3), ("end", 1)]
        self.assertEqual(repr(desk.log()), repr(want))
        told = desk.log()
        told.clear()
        self.assertEqual(desk.log(), want)

    def test_is_open(self):
        desk = Desk()
        self.assertIs(desk.is_open(), True)
        desk.run(["names", "again 1"])
        self.assertIs(desk.is_open(), True)


class OwnBook(unittest.TestCase):
    def test_a_book_of_its_own(self):
        desk = desk_of(WALK, TAKING)
        desk.ask("worth toy 0 ax..")
        ahead = whole(desk)
        book = desk.book()
        self.assertIsInstance(book, Book)
        self.assertEqual(book.game("toy"), WALK)
        self.assertEqual(len(book.known("toy")), 4)
        book.put(STUCK)
        book.drop("hop")
        book.worth("toy", (0, ".."))
        self.assertEqual(whole(desk), ahead)
        desk.ask("drop toy")
        self.assertEqual(book.names(), ["toy"])
        other = desk.book()
        self.assertEqual((other.names(), undos(other)), (["hop"], 3))

    def test_an_empty_one(self):
        self.assertTrue(Desk().book() == Book())
        self.assertIs(Desk().book().undo(), False)

    def test_two_desks(self):
        one, other = desk_of(WALK), desk_of(WALK)
        one.ask("drop toy")
        self.assertEqual((one.ask("names"), other.ask("names")), ("-", "toy"))
        self.assertEqual(Desk().ask("names"), "-")


class Drawn(unittest.TestCase):
    def drawn_run(self, dice, pool, book):
        """The rows of a run, some of them again, and what it's handed besides."""
        rows = []
        for number in range(dice.randint(0, 7)):
            if rows and dice.random() < 0.2:
                rows.append(f"again {dice.randint(1, len(rows) + dice.choice([0, 0, 0, 1]))}")
            else:
                rows.append(random_desk_row(dice, pool, book))
        return rows, {"keep": dice.random() < 0.6, "deep": dice.randint(1, 3)}

    def check(self, seed, many, most):
        dice = random.Random(seed)
        pool = {name: games_of(dice, name) for name in NAMES}
        desk, plain = Desk(most=most), PlainDesk(most)
        seen = {}
        for number in range(many):
            if dice.random() < 0.5:
                row = random_desk_row(dice, pool, plain.shelf)
                want = outcome(plain.ask, row)
                self.assertEqual(outcome(desk.ask, row), want, row)
                kind = ("ask", row.split(" ")[0])
            else:
                rows, names = self.drawn_run(dice, pool, plain.shelf)
                want = outcome(plain.run, rows, **names)
                self.assertEqual(outcome(desk.run, rows, **names), want, rows)
                kind = ("run", names["keep"])
            self.assertEqual(view(desk.book()), view(plain.book()))
            self.assertEqual(desk.log(), plain.log())
            self.assertIs(desk.is_open(), True)
            kind = (*kind, "told" if isinstance(want, str) else want[0].__name__)
            seen[kind] = seen.get(kind, 0) + 1
        self.assertEqual(whole(desk), whole(plain))
        return seen

    def test_as_told_plainly(self):
        seen = {}
        for seed in range(451, 459):
            seen.update(self.check(seed, 150, 400 if seed % 2 else 7))
        for word in ("put", "would", "vary", "drop", "undo", "names", "text", "editions", "reckoned", "known", "moves", "worth",
                     "line", "round",
                     "alike", "within", "mistakes"):
            self.assertIn(("ask", word, "told"), seen)
        for keep in (False, True):
            for word in ("told", "BadRow", "Busy", "NoGame", "NoStanding", "BadChange"):
                self.assertIn(("run", keep, word), seen)
        self.assertIn("TooMany", [kind[2] for kind in seen])

    def test_told_the_same(self):
        """Two desks to which the same is done tell the same, by lists or by tuples."""
        dice = random.Random(460)
        pool = {name: games_of(dice, name) for name in NAMES}
        one, other = Desk(), Desk()
        for number in range(40):
            rows, names = self.drawn_run(dice, pool, one.book())
            self.assertEqual(outcome(one.run, rows, **names), outcome(other.run, tuple(rows), **names))
            self.assertEqual((whole(one), one.log()), (whole(other), other.log()))


class Kinds(unittest.TestCase):
    def test_least_one_is_told_by_the_game_that_stands_there(self):
        desk = desk_of(MIRRORED)
        side, row = least_alike(listed(MIRRORED), (1, "xx.."))[0]
        self.assertEqual(desk.ask("alike toy 1 xx.."), f"{side} {row}")
        desk.ask("vary toy norule 0 x. .x")
        self.assertEqual(desk.ask("alike toy 1 xx.."), "1 xx..")


if __name__ == "__main__":
    unittest.main()
