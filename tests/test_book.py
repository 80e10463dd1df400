import copy
import random
import unittest
from unittest import mock

from solvedplay.book import Book
from solvedplay.errors import BadChange, NoEdition, NoGame, NoStanding, TooMany
from solvedplay.papers import paper, shows_worth
from solvedplay.playing import line
from solvedplay.reach import reached
from solvedplay.solving import solved, worth_of
from solvedplay.variants import varied
from tests.asking import FORKED, OTHERS, ROUND, START, STUCK, TAKING, WALK, refused
from tests.oracle import all_standings, game_of, listed
from tests.plain_book import NAMES, PlainBook, games_of, outcome, random_deed, view
from tests.samples import FOUR_HUNDRED, ONE_MORE

WALKS = (1, "b..x")
# Ends the play of WALK sooner, at (0, "b.x."), so that of the four that START comes to just WALKS stays known.
SOONER = ("end", 0, ".x.", 4)


def named(name, game):
    return (name,) + game[1:]


def book_of(*games):
    book = Book()
    for game in games:
        book.put(game)
    return book


def tupled(thing):
    return tuple(tupled(part) for part in thing) if isinstance(thing, (list, tuple)) else thing


class Empty(unittest.TestCase):
    def test_nothing(self):
        book = Book()
        self.assertEqual((len(book), book.names(), book.reckoned(), book.undo()), (0, [], 0, False))

    def test_no_game(self):
        for name in ("toy", "", "a name", "Toy", "zzzzzzzzz", "-", "\n"):
            for deed in (("vary", (name, ("shape", "ring"))), ("vary", (name, None)), ("drop", (name,)), ("worth", (name, START)),
                         ("worth", (name, None)), ("known", (name,)), ("game", (name,)), ("editions", (name,)),
                         ("as_of", (name, 0)), ("as_of", (name, -1)), ("as_of", (name, 1)), ("line", (name, START)),
                         ("line", (name, 7)), ("paper", (name, START)), ("paper", (name, []))):
                for book in (Book(), book_of(named("other", WALK))):
                    refused(self, NoGame, name, lambda: getattr(book, deed[0])(*deed[1]))
                    self.assertEqual(len(book.names()), len(book))


class Put(unittest.TestCase):
    def test_editions_count_on(self):
        book = Book()
        for number in range(5):
            self.assertEqual(book.put(WALK), (number, 0))
            self.assertEqual((book.editions("toy"), len(book), book.names()), (number + 1, 1, ["toy"]))
        self.assertEqual(book.put(FORKED), (5, 0))
        self.assertEqual([book.as_of("toy", number) for number in range(6)], [WALK] * 5 + [FORKED])
        self.assertEqual(book.game("toy"), FORKED)

    def test_names_rise_and_are_on_their_own(self):
        book = Book()
        for number, name in enumerate(NAMES[::-1]):
            self.assertEqual(book.put(named(name, TAKING)), (0, 0))
            self.assertEqual(book.names(), sorted(NAMES[::-1][:number + 1]))
        self.assertEqual(len(book), 6)
        book.worth("toy", (0, "x..."))
        self.assertEqual([len(book.known(name)) for name in book.names()], [0, 0, 0, 2, 0, 0])
        self.assertEqual(book.put(named("hop", TAKING)), (1, 0))
        self.assertEqual([book.editions(name) for name in book.names()], [1, 1, 2, 1, 1, 1])

    def test_kept(self):
        book = book_of(WALK)
        book.worth("toy", START)
        self.assertEqual(len(book.known("toy")), 4)
        fresh = varied(WALK, SOONER)
        self.assertEqual(book.would(fresh), (1, 1))
        self.assertEqual(book.put(fresh), (1, 1))
        self.assertEqual(book.known("toy"), [(WALKS, 5, 0)])
        # The end that is otherwise is touched by all.
        self.assertEqual(book.would(WALK[:5] + (((2, "..x", 4),), (0, 0))), (2, 0))
        self.assertEqual(book.put(WALK[:5] + (((2, "..x", 4),), (0, 0))), (2, 0))
        self.assertEqual(book.known("toy"), [])

    def test_kept_of_the_same_game(self):
        book = book_of(TAKING)
        book.worth("toy", (0, "xx.x"))
        known = book.known("toy")
        self.assertEqual(book.put(TAKING), (1, len(known)))
        self.assertEqual(book.known("toy"), known)

    def test_none_is_kept_of_other_beads_their_order_or_long(self):
        for other in (WALK[:2] + (".xba",) + WALK[3:], WALK[:2] + (".xac",) + WALK[3:4] + ((WALK[4][0], ()),) + WALK[5:],
                      WALK[:2] + (".xa",) + WALK[3:4] + ((WALK[4][0], ()),) + WALK[5:], WALK[:3] + (5,) + WALK[4:]):
            book = book_of(WALK)
            book.worth("toy", START)
            self.assertEqual(book.would(other), (1, 0))
            self.assertEqual(book.put(other), (1, 0))
            self.assertEqual(book.known("toy"), [])
            self.assertEqual(book.game("toy"), other)
            self.assertEqual(book.put(WALK), (2, 0))
            self.assertEqual(book.known("toy"), [])

    def test_kept_goes_by_the_game_that_stood_there(self):
        # By the new game more is reached, by the old one nothing that is touched.
        game = game_of(".xy", 2, ((("x", "."),), ()), (), (3, 4))
        book = book_of(game)
        book.worth("toy", (0, ".x"))
        book.worth("toy", (0, "yy"))
        known = book.known("toy")
        self.assertEqual([row[0] for row in known], [(0, ".x"), (0, "yy"), (1, "..")])
        self.assertEqual(book.put(varied(game, ("rule", 0, "y", "x"))), (1, 2))
        self.assertEqual([row[0] for row in book.known("toy")], [(0, ".x"), (1, "..")])
        self.assertEqual(book.put(game), (2, 2))

    def test_would_changes_nothing(self):
        book = book_of(WALK)
        book.worth("toy", START)
        ahead = view(book)
        for game in (WALK, FORKED, STUCK, named("new", WALK)):
            for number in (0, 1):
                told = book.would(game)
                self.assertEqual(view(book), ahead)
                self.assertEqual(book.twin().put(game), told)
        self.assertEqual(book.would(named("new", WALK)), (0, 0))
        self.assertIs(book.undo(), True)
        self.assertIs(book.undo(), False)

    def test_handed_in_is_not_kept(self):
        game = listed(WALK)
        book = Book()
        self.assertEqual(book.put(game), (0, 0))
        self.assertEqual(game, listed(WALK))
        game[4][0].clear()
        game[5][0][2] = 9
        game.reverse()
        self.assertEqual(repr(book.game("toy")), repr(WALK))
        self.assertEqual(repr(book.as_of("toy", 0)), repr(WALK))
        self.assertEqual(book.worth("toy", START), (5, 3))


class Vary(unittest.TestCase):
    def test_put(self):
        book = book_of(WALK)
        book.worth("toy", START)
        self.assertEqual(book.vary("toy", SOONER), (1, 1))
        self.assertEqual(book.game("toy"), varied(WALK, SOONER))
        self.assertEqual((book.as_of("toy", 0), book.as_of("toy", 1)), (WALK, varied(WALK, SOONER)))
        self.assertEqual(book.vary("toy", ["noend", 0, ".x.", 4]), (2, 1))
        self.assertEqual(book.game("toy"), WALK)

    def test_refused(self):
        book = book_of(WALK)
        book.worth("toy", START)
        ahead = view(book)
        for change in [("shape", "line"), ("stuck", 0, 0), ("stuck", False, 1), ["stuck", 2, 1], ("norule", 0, "x", "."), "shape",
                       ("end", 2, "..x", 6)] + OTHERS:
            refused(self, BadChange, change, lambda: book.vary("toy", change))
            refused(self, NoGame, "hop", lambda: book.vary("hop", change))
            self.assertEqual(view(book), ahead)
        self.assertIs(book.undo(), True)
        self.assertEqual(len(book), 0)

    def test_what_the_refusal_has_is_not_kept(self):
        change = ["end", [2], "..x", 6]
        with self.assertRaises(BadChange) as caught:
            book_of(WALK).vary("toy", change)
        change[1].clear()
        self.assertEqual(caught.exception.what, ["end", [2], "..x", 6])


class Drop(unittest.TestCase):
    def test_there_no_more(self):
        book = book_of(WALK, named("hop", TAKING))
        book.worth("toy", START)
        self.assertIsNone(book.drop("toy"))
        self.assertEqual((book.names(), len(book), book.reckoned()), (["hop"], 1, 4))
        for deed in (("drop", ("toy",)), ("game", ("toy",)), ("known", ("toy",)), ("editions", ("toy",)), ("as_of", ("toy", 0)),
                     ("worth", ("toy", START)), ("line", ("toy", START)), ("paper", ("toy", START)), ("vary", ("toy", SOONER))):
            refused(self, NoGame, "toy", lambda: getattr(book, deed[0])(*deed[1]))

    def test_put_again_it_goes_on_in_its_editions(self):
        book = book_of(WALK, FORKED)
        book.worth("toy", START)
        book.drop("toy")
        self.assertEqual(book.would(FORKED), (2, 0))
        self.assertEqual(book.put(FORKED), (2, 0))
        self.assertEqual([book.as_of("toy", number) for number in range(book.editions("toy"))], [WALK, FORKED, FORKED])
        self.assertEqual(book.known("toy"), [])
        book.worth("toy", START)
        self.assertEqual(book.reckoned(), 12)
        book.drop("toy")
        book.put(WALK)
        self.assertEqual(book.editions("toy"), 4)


class Undo(unittest.TestCase):
    def test_each_deed(self):
        for deed in (("put", (WALK,)), ("put", (FORKED,)), ("put", (STUCK,)), ("put", (named("new", WALK),)),
                     ("vary", ("toy", SOONER)),
                     ("drop", ("toy",)), ("drop", ("hop",))):
            book = book_of(WALK, named("hop", TAKING))
            book.worth("toy", START)
            book.worth("hop", (0, "xx.."))
            ahead = view(book)
            getattr(book, deed[0])(*deed[1])
            self.assertNotEqual(view(book), ahead)
            self.assertIs(book.undo(), True)
            self.assertEqual(view(book), ahead)
            self.assertEqual(book.undo(), True)
            self.assertEqual(book.names(), ["toy"])

    def test_of_a_name_that_was_new(self):
        book = book_of(WALK)
        self.assertIs(book.undo(), True)
        self.assertEqual((book.names(), len(book), book == Book()), ([], 0, True))
        refused(self, NoGame, "toy", lambda: book.editions("toy"))
        self.assertIs(book.undo(), False)
        # It's as if it had never been, so the next one is the first.
        self.assertEqual(book.put(FORKED), (0, 0))

    def test_what_is_known_is_as_ahead_of_the_deed(self):
        book = book_of(WALK)
        book.worth("toy", WALKS)
        book.vary("toy", SOONER)
        book.worth("toy", START)
        self.assertEqual((len(book.known("toy")), book.reckoned()), (4, 4))
        book.undo()
        # What was reckoned of the variant is forgotten, though counted.
        self.assertEqual((book.known("toy"), book.reckoned()), ([(WALKS, 5, 0)], 4))
        book.worth("toy", START)
        self.assertEqual((len(book.known("toy")), book.reckoned()), (4, 7))

    def test_of_one_name_alone(self):
        book = book_of(WALK, named("hop", TAKING))
        book.worth("toy", START)
        book.undo()
        # What is known of the other name by now stays.
        self.assertEqual(len(book.known("toy")), 4)

    def test_again_and_again_until_there_is_none(self):
        book = Book()
        views = []
        deeds = [("put", (WALK,)), ("put", (named("hop", TAKING),)), ("vary", ("toy", SOONER)), ("drop", ("hop",)),
                 ("drop", ("toy",)),
                 ("put", (FORKED,)), ("put", (named("hop", STUCK),)), ("vary", ("hop", ("shape", "ring"))), ("drop", ("toy",))]
        for method, arguments in deeds:
            views.append(view(book))
            getattr(book, method)(*arguments)
        while views:
            self.assertIs(book.undo(), True)
            self.assertEqual(view(book), views.pop())
        self.assertIs(book.undo(), False)
        self.assertIs(book.undo(), False)

    def test_undone_it_can_be_undone_no_more(self):
        book = book_of(WALK, FORKED)
        book.undo()
        book.put(STUCK)
        book.undo()
        self.assertEqual(book.game("toy"), WALK)
        self.assertEqual(book.editions("toy"), 1)
        self.assertIs(book.undo(), True)
        self.assertIs(book.undo(), False)

    def test_asking_and_refusals_are_no_deeds(self):
        book = book_of(WALK)
        book.worth("toy", START)
        book.line("toy", START)
        book.paper("toy", START)
        book.would(FORKED)
        book.known("toy")
        for method, arguments in (("drop", ("hop",)), ("vary", ("toy", None)), ("worth", ("toy", None))):
            with self.assertRaises((NoGame, BadChange, NoStanding)):
                getattr(book, method)(*arguments)
        self.assertIs(book.undo(), True)
        self.assertEqual(len(book), 0)

    def test_two_hundred(self):
        book = book_of(WALK)
        for number in range(199):
            book.put([FORKED, WALK][number % 2])
        self.assertEqual(book.editions("toy"), 200)
        for number in range(200):
            self.assertIs(book.undo(), True)
        self.assertIs(book.undo(), False)


class Worth(unittest.TestCase):
    def test_known_from_now_on(self):
        book = book_of(WALK)
        self.assertEqual(book.worth("toy", (1, "a.x.")), (5, 2))
        self.assertEqual(book.known("toy"), solved(WALK, [(1, "a.x.")]))
        self.assertEqual(book.reckoned(), 3)
        self.assertEqual(book.worth("toy", START), (5, 3))
        self.assertEqual((book.known("toy"), book.reckoned()), (solved(WALK, [START]), 4))
        for number in (0, 1):
            for standing in reached(WALK, [START]):
                self.assertEqual(book.worth("toy", standing), worth_of(WALK, standing))
        self.assertEqual(book.reckoned(), 4)

    def test_far_rests_on_lesser_ends_of_what_is_known(self):
        # Side 1 can have -4 from (1, "b.b") within three moves, -2 within two. Ahead of it it's worth -2, within three.
        game = game_of(".xb", 3, (((".", "b"), (".x", "xx"), ("xx", ".b")), (("b", "x"), ("b.x", "..."))),
                       ((0, ".x.", -5), (0, "xb", -2), (2, "bx", -2)), (0, 9))
        book = book_of(game)
        self.assertEqual(book.worth("toy", (1, "b.b")), (-4, 3))
        self.assertEqual(book.worth("toy", (0, "..b")), (-2, 3))
        for one in all_standings(game):
            for other in all_standings(game)[::3]:
                book = book_of(game)
                self.assertEqual([book.worth("toy", other), book.worth("toy", one)], [worth_of(game, other), worth_of(game, one)])

    def test_of_all_names(self):
        book = book_of(WALK, named("hop", WALK))
        book.worth("toy", START)
        book.worth("hop", START)
        self.assertEqual(book.reckoned(), 8)

    def test_ended_ones_count(self):
        book = book_of(STUCK)
        self.assertEqual(book.worth("toy", (0, "..")), (0, 0))
        self.assertEqual((book.known("toy"), book.reckoned()), ([((0, ".."), 0, 0)], 1))

    def test_rounds(self):
        book = book_of(ROUND)
        self.assertEqual(repr(book.worth("toy", (0, "aa"))), "(0, None)")
        self.assertEqual(book.known("toy"), solved(ROUND, [(0, "aa")]))

    def test_too_many_with_the_known_ones_counted(self):
        book = book_of(WALK)
        for method in (book.worth, book.line, book.paper):
            refused(self, TooMany, 3, lambda: method("toy", START, most=3))
        self.assertEqual((book.known("toy"), book.reckoned()), ([], 0))
        book.worth("toy", START, most=4)
        for method in (book.worth, book.line, book.paper):
            refused(self, TooMany, 3, lambda: method("toy", START, most=3))
            method("toy", START, most=4)
        self.assertEqual(book.worth("toy", (1, "a.x."), most=3), (5, 2))

    def test_four_hundred_and_one_more(self):
        for game, begin in FOUR_HUNDRED:
            book = book_of(game)
            self.assertEqual(book.worth("toy", begin), worth_of(game, begin))
            self.assertEqual((len(book.known("toy")), book.reckoned()), (400, 400))
            self.assertEqual(book.put(game), (1, 400))
        for game, begin in ONE_MORE:
            book = book_of(game)
            for method in (book.worth, book.line, book.paper):
                refused(self, TooMany, 400, lambda: method("toy", begin))
            self.assertEqual(book.worth("toy", begin, most=401), worth_of(game, begin, most=401))

    def test_more_than_four_hundred_may_be_known(self):
        game, begin = ONE_MORE[0]
        book = book_of(game)
        begins = all_standings(game)[::80]
        told = {}
        for one in begins:
            if len(reached(game, [one], most=5000)) <= 400:
                told.update({row[0]: row for row in solved(game, [one])})
                book.worth("toy", one)
        self.assertTrue(len(told) > 400, len(told))
        self.assertEqual(book.known("toy"), [told[one] for one in sorted(told)])
        self.assertEqual(book.put(game), (1, len(told)))

    def test_no_standing(self):
        book = book_of(WALK)
        ahead = view(book)
        things = OTHERS + [(0, "ax."), (0, "ax..."), (2, "ax.."), (-1, "ax.."), (True, "ax.."), (0, "cx.."), (0, "AX.."),
                           ("0", "ax.."),
                           (0, "ax..", 0), (0,), (0, None), (0, ["a", "x", ".", "."]), "ax..", (None, "ax.."), [True, "ax.."]]
        for thing in things:
            for method in (book.worth, book.line, book.paper):
                refused(self, NoStanding, tupled(thing), lambda: method("toy", thing))
                refused(self, NoStanding, tupled(thing), lambda: method("toy", thing, most=1))
        self.assertEqual(view(book), ahead)

    def test_of_that_game(self):
        book = book_of(WALK, named("hop", STUCK))
        refused(self, NoStanding, (0, ".."), lambda: book.worth("toy", (0, "..")))
        refused(self, NoStanding, START, lambda: book.worth("hop", START))
        book.put(named("hop", WALK))
        self.assertEqual(book.worth("hop", START), (5, 3))

    def test_what_no_standing_has_is_not_kept(self):
        thing = [0, ["a"]]
        with self.assertRaises(NoStanding) as caught:
            book_of(WALK).worth("toy", thing)
        thing[1].clear()
        self.assertEqual(caught.exception.what, (0, ("a",)))


class LineAndPaper(unittest.TestCase):
    def test_nothing_is_known_by_it(self):
        book = book_of(FORKED, named("hop", ROUND))
        for name, game in (("toy", FORKED), ("hop", ROUND)):
            for standing in all_standings(game)[::7]:
                self.assertEqual(book.line(name, standing), line(game, standing))
                self.assertEqual(book.paper(name, standing), paper(game, standing))
                self.assertIs(shows_worth(game, standing, book.paper(name, standing)), True)
        self.assertEqual((book.known("toy"), book.known("hop"), book.reckoned()), ([], [], 0))

    def test_by_the_game_that_stands_there_now(self):
        book = book_of(WALK)
        book.worth("toy", START)
        book.vary("toy", SOONER)
        self.assertEqual(book.line("toy", START), line(varied(WALK, SOONER), START))
        self.assertEqual(book.paper("toy", START), paper(varied(WALK, SOONER), START))


class AsOf(unittest.TestCase):
    def test_each_and_any_number_else(self):
        book = book_of(WALK, FORKED, TAKING)
        self.assertEqual([book.as_of("toy", number) for number in range(3)], [WALK, FORKED, TAKING])
        for number in (-1, -3, -4, 3, 4, 400, -400, 10 ** 30):
            refused(self, NoEdition, number, lambda: book.as_of("toy", number))
            refused(self, NoGame, "hop", lambda: book.as_of("hop", number))
        book.undo()
        refused(self, NoEdition, 2, lambda: book.as_of("toy", 2))
        self.assertEqual(book.editions("toy"), 2)


class Twin(unittest.TestCase):
    def made(self):
        book = book_of(WALK, named("hop", TAKING), FORKED)
        book.worth("toy", START)
        book.worth("hop", (0, "xxx."))
        book.drop("hop")
        book.put(named("hop", TAKING))
        book.worth("hop", (1, "x..."))
        return book

    def test_tells_the_same(self):
        book = self.made()
        twin = book.twin()
        self.assertEqual(view(twin), view(book))
        self.assertTrue(twin == book)
        self.assertIsInstance(twin, Book)

    def test_goes_on_alike(self):
        book = self.made()
        twin = book.twin()
        while True:
            told = book.undo()
            self.assertIs(twin.undo(), told)
            self.assertEqual(view(twin), view(book))
            if not told:
                break

    def test_goes_its_own_way(self):
        for deed in (("put", (STUCK,)), ("vary", ("toy", ("shape", "ring"))), ("drop", ("toy",)), ("undo", ()),
                     ("worth", ("toy", (0, "axx.")))):
            for one, other in ((0, 1), (1, 0)):
                pair = [self.made()]
                pair.append(pair[0].twin())
                ahead = view(pair[other])
                getattr(pair[one], deed[0])(*deed[1])
                self.assertNotEqual(view(pair[one]), ahead)
                self.assertEqual(view(pair[other]), ahead)
                # Nor is what may be undone.
                self.assertEqual(pair[other].names(), self.made().names())
                while pair[one].undo():
                    pass
                self.assertEqual(view(pair[other]), ahead)
                left = 0
                while pair[other].undo():
                    left += 1
                self.assertEqual(left, 5)

    def test_of_an_empty_one(self):
        twin = Book().twin()
        self.assertEqual((len(twin), twin.undo(), twin == Book()), (0, False, True))


class Equal(unittest.TestCase):
    def check(self, one, other, are_equal):
        for left, right in ((one, other), (other, one)):
            self.assertIs(left == right, are_equal)
            self.assertIs(left != right, not are_equal)

    def test_by_games_and_names_alone(self):
        book, other = book_of(WALK, named("hop", TAKING)), book_of(named("hop", TAKING), WALK)
        self.check(book, other, True)
        self.check(book, book, True)
        # Neither editions, nor what is known, reckoned, or may be undone.
        book.worth("toy", START)
        self.check(book, other, True)
        other.put(FORKED)
        self.check(book, other, False)
        other.put(WALK)
        self.check(book, other, True)
        other.drop("toy")
        self.check(book, other, False)
        book.drop("toy")
        self.check(book, other, True)
        self.check(book, Book(), False)
        book.undo()
        self.check(book, other, False)

    def test_other_games_and_names(self):
        self.check(book_of(WALK), book_of(FORKED), False)
        self.check(book_of(WALK), book_of(named("hop", WALK)), False)
        self.check(book_of(WALK), book_of(WALK, named("hop", WALK)), False)
        self.check(book_of(listed(WALK)), book_of(WALK), True)
        self.check(Book(), Book(), True)
        empty = book_of(WALK)
        empty.drop("toy")
        self.check(empty, Book(), True)

    def test_to_nothing_else(self):
        for book in (Book(), book_of(WALK)):
            for thing in OTHERS + [{}, {"toy": WALK}, WALK, "toy", ["toy"], 0, 1, object()]:
                self.check(book, thing, False)
            self.assertIs(book == mock.ANY, False)


class Lists(unittest.TestCase):
    def test_told_lists_are_the_askers_own(self):
        book = book_of(WALK, named("hop", TAKING))
        book.worth("toy", START)
        for ask in (book.names, lambda: book.known("toy"), lambda: book.line("toy", START)[0],
                    lambda: book.paper("toy", START)[1],
                    lambda: book.paper("toy", START)[2]):
            told, other = ask(), ask()
            want = copy.deepcopy(other)
            self.assertIsNot(told, other)
            told.append("changed")
            told.reverse()
            self.assertEqual((other, ask()), (want, want))

    def test_lists_for_tuples(self):
        one, other = Book(), Book()
        for deed in (("put", (WALK,)), ("worth", ("toy", START)), ("would", (FORKED,)), ("put", (FORKED,)),
                     ("vary", ("toy", SOONER)),
                     ("worth", ("toy", START)), ("line", ("toy", START)), ("paper", ("toy", START)),
                     ("worth", ("toy", (0, "q")))):
            self.assertEqual(outcome(other, (deed[0], listed(deed[1]), {})), outcome(one, (*deed, {})))
            self.assertEqual(view(one), view(other))

    def test_names_of_arguments(self):
        book = Book()
        self.assertEqual(book.put(game=WALK), (0, 0))
        self.assertEqual(book.would(game=FORKED), (1, 0))
        self.assertEqual(book.worth(name="toy", standing=START, most=4), (5, 3))
        self.assertEqual(book.line(name="toy", standing=START, most=4), line(WALK, START))
        self.assertEqual(book.paper(name="toy", standing=START, most=4), paper(WALK, START))
        self.assertEqual(len(book.known(name="toy")), 4)
        self.assertEqual(book.game(name="toy"), WALK)
        self.assertEqual(book.editions(name="toy"), 1)
        self.assertEqual(book.as_of(name="toy", edition=0), WALK)
        self.assertEqual(book.vary(name="toy", change=SOONER), (1, 1))
        self.assertIsNone(book.drop(name="toy"))
        book.undo()
        for method in (book.worth, book.line, book.paper):
            with self.assertRaises(TypeError):
                method("toy", START, 400)


class Drawn(unittest.TestCase):
    def check(self, seed, many):
        dice = random.Random(seed)
        pool = {name: games_of(dice, name) for name in NAMES}
        book, plain, like = Book(), PlainBook(), Book()
        told = {}
        for number in range(many):
            deed = random_deed(dice, pool, plain)
            want = outcome(plain, deed)
            self.assertEqual(outcome(book, deed), want)
            self.assertEqual(outcome(like, deed), want)
            if number % 20 == 0:
                like = like.twin()
            self.assertEqual(view(book), view(plain))
            self.assertEqual(view(like), view(plain))
            kind = (deed[0], "told" if isinstance(want, str) else want[0].__name__)
            told[kind] = told.get(kind, 0) + 1
        return told

    def test_as_told_plainly(self):
        told = {}
        for seed in range(421, 429):
            told.update(self.check(seed, 120))
        for kind in (("put", "told"), ("vary", "told"), ("vary", "NoGame"), ("vary", "BadChange"), ("drop", "told"),
                     ("drop", "NoGame"),
                     ("undo", "told"), ("worth", "told"), ("worth", "NoGame"), ("worth", "NoStanding"), ("worth", "TooMany"),
                     ("line", "told"), ("as_of", "NoEdition"), ("as_of", "told"), ("would", "told")):
            self.assertIn(kind, told)

    def test_two_hundred_deeds(self):
        self.check(430, 600)


class Variants(unittest.TestCase):
    def test_just_what_is_reached_otherwise_is_reckoned_anew(self):
        """[1] (f): counted are those from which something otherwise is reached, and all is told as reckoned afresh."""
        dice = random.Random(431)
        seen = set()
        for number in range(60):
            games = games_of(dice, "toy")
            book = book_of(games[0])
            begins = [dice.choice(all_standings(games[0])) for at in range(2)]
            for one in begins:
                book.worth("toy", one)
            known, count = book.known("toy"), book.reckoned()
            other = dice.choice(games[1:3] + games[6:])
            kept = book.put(other)[1]
            for one in begins:
                self.assertEqual(book.worth("toy", one), worth_of(other, one))
            want = solved(other, begins)
            self.assertTrue(set(want) <= set(book.known("toy")))
            staying = [row for row in known if row in book.known("toy")]
            self.assertTrue(len(staying) >= kept)
            self.assertEqual(book.reckoned() - count, len(book.known("toy")) - kept)
            seen.add((kept == 0, kept == len(known)))
        self.assertEqual(seen, {(True, False), (False, True), (False, False)})


if __name__ == "__main__":
    unittest.main()
