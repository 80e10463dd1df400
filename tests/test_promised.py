"""[1]: what is promised above all, over drawn games and by the whole program."""

import random
import unittest

from solvedplay.ahead import known_by, within
from solvedplay.book import Book
from solvedplay.classes import read_alike, solved_alike
from solvedplay.desk import Desk
from solvedplay.errors import BadChange, BadRow, Busy, NoGame, NoStanding, TooMany
from solvedplay.farpapers import far_paper, shows_far
from solvedplay.gametext import game_text
from solvedplay.leading import kept, led_over, touched
from solvedplay.mistakes import mistakes
from solvedplay.moves import done, ended
from solvedplay.papers import paper, shows_worth
from solvedplay.plans import best_plan, plan_worth
from solvedplay.playing import judged, line
from solvedplay.reach import reached
from solvedplay.records import played
from solvedplay.rounds import round_word
from solvedplay.solving import solved, worth_of
from solvedplay.tablepapers import shows_solved
from solvedplay.turnings import alike, least_alike, turned, turnings
from solvedplay.variants import changes, varied
from tests.asking import GAMES, random_record, small_games
from tests.oracle import all_standings, random_games, some_standings
from tests.plain_book import view
from tests.plain_turnings import LIKE, alike_games
from tests.plain_variants import other_of, plain_varied, random_change
from tests.samples import FOUR_HUNDRED, ONE_MORE


def table(game, standings, most=400):
    return {one: (worth, far) for one, worth, far in solved(game, standings, most=most)}


def drawn_asked(seed, many, each):
    """Pairs (game, standing) from which at most 400 are reached."""
    for game in GAMES + random_games(seed, many, 4, 3):
        for standing in some_standings(seed, game, each):
            if len(reached(game, [standing], most=10000)) <= 400:
                yield game, standing


class Papers(unittest.TestCase):
    """(a) each told worth, and each told distance, has papers that the judge takes; it takes none of another worth."""

    def test_worths(self):
        seen = set()
        for game, standing in drawn_asked(501, 40, 2):
            worth, far = worth_of(game, standing)
            told = paper(game, standing)
            self.assertEqual(told[0], worth)
            self.assertIs(shows_worth(game, standing, told), True)
            self.assertIs(shows_solved(game, [standing], solved(game, [standing])), True)
            for other in range(-9, 10):
                if other != worth:
                    self.assertIs(shows_worth(game, standing, (other, *told[1:])), False)
            seen.add((worth > 0, worth < 0, far == 0, far is None))
        self.assertTrue(len(seen) >= 6, seen)

    def test_distances(self):
        many = 0
        for game, standing in drawn_asked(502, 60, 2):
            worth, far = worth_of(game, standing)
            told = far_paper(game, standing)
            self.assertIs(told is None, worth == 0 or far == 0)
            if told is not None:
                many += 1
                self.assertEqual(told[:2], (worth, far))
                self.assertIs(shows_far(game, standing, told), True)
                # None of a worth that's more for the gaining side, or a gain for the other one.
                for other in range(-9, 10):
                    if not 0 < other <= worth and not worth <= other < 0:
                        self.assertIs(shows_far(game, standing, (other, *told[1:])), False)
                for other in (far - 1, far + 1, 0):
                    self.assertIs(shows_far(game, standing, (worth, other, *told[2:])), False)
        self.assertTrue(many > 15, many)

    def test_four_hundred(self):
        for game, standing in FOUR_HUNDRED:
            self.assertIs(shows_worth(game, standing, paper(game, standing)), True)
            self.assertIs(shows_solved(game, [standing], solved(game, [standing])), True)


class Play(unittest.TestCase):
    """(b) who plays as told gets the told worth or more, whatever the other one does; where that's a gain, within the told
    distance, as long as the other one makes no mistake."""

    def play(self, dice, game, standing, side, is_careful):
        """Plays the side's best plan, the other side anyhow, or without mistakes; the moves made and the end, or None."""
        plan = dict(best_plan(game, standing, side))
        here, many, met = standing, 0, []
        while ended(game, here) is None and len(met) < 200:
            met.append(here)
            rows = judged(game, here)
            others = [row[0] for row in rows if row[1] != "mistake" or not is_careful]
            here = done(game, here, plan[here] if here[0] == side else dice.choice(others))
            many += 1
        return many, ended(game, here)

    def test_played(self):
        dice = random.Random(503)
        gains = 0
        for game, standing in drawn_asked(504, 25, 1):
            worth, far = worth_of(game, standing)
            for side in (0, 1):
                gain = worth if side == 0 else -worth
                self.assertEqual(plan_worth(game, standing, side, best_plan(game, standing, side))[0], worth)
                for is_careful in (False, True):
                    many, end = self.play(dice, game, standing, side, is_careful)
                    # Play that goes on and on is worth 0.
                    got = 0 if end is None else end if side == 0 else -end
                    self.assertTrue(got >= gain, (game, standing, side))
                    if gain > 0 and is_careful:
                        self.assertTrue(many <= far, (game, standing, side))
                        gains += 1
        self.assertTrue(gains > 8, gains)


class Ahead(unittest.TestCase):
    """(c) what's reckoned back and what's looked at ahead never gainsay one another; play that goes round for ever is worth
    0, and told as such."""

    def test_both_tell_the_same(self):
        seen = set()
        for game, standing in drawn_asked(505, 40, 2):
            worth, far = worth_of(game, standing)
            for deep in (0, 1, 2, 3, 5, 8, 13, 40):
                low, high = within(game, standing, deep)
                self.assertTrue(low <= worth <= high)
                if far is not None and far <= 40:
                    if worth > 0:
                        self.assertIs(low == worth, deep >= far)
                    if worth < 0:
                        self.assertIs(high == worth, deep >= far)
                seen.add((worth > 0, worth < 0, low == high))
            known = known_by(game, standing, 40)
            if known is not None:
                self.assertEqual(within(game, standing, known), (worth, worth))
        self.assertTrue(len(seen) >= 5, seen)

    def test_rounds(self):
        many = 0
        for game, standing in drawn_asked(506, 100, 4):
            worth, far = worth_of(game, standing)
            if line(game, standing)[1] == "round":
                many += 1
                self.assertEqual((worth, far), (0, None))
                self.assertIn(round_word(game, standing), ("must", "may"))
            if round_word(game, standing) == "must":
                self.assertEqual(line(game, standing)[1], "round")
        self.assertTrue(many > 15, many)


class Mistakes(unittest.TestCase):
    """(d) a mistake is told with the play that takes what it gave away."""

    def test_taken(self):
        dice = random.Random(507)
        many = 0
        for game in small_games(508, 300):
            for number in range(5):
                record = random_record(dice, game, 20)
                standings = played(game, record)
                for at, ahead, behind, made in mistakes(game, record):
                    self.assertEqual((ahead, behind), (worth_of(game, standings[at])[0], worth_of(game, standings[at + 1])[0]))
                    last = played(game, (standings[at + 1], made))[-1]
                    if (behind < 0) if standings[at][0] == 0 else (behind > 0):
                        self.assertEqual(ended(game, last), behind)
                        many += 1
                    else:
                        self.assertIn(ended(game, last), (behind, None))
        self.assertTrue(many > 15, many)


class Turnings(unittest.TestCase):
    """(e) standings that a turning leads to one another have one worth; a game solved by its turnings is told as without
    them."""

    def test_one_worth(self):
        dice = random.Random(509)
        for game in LIKE + alike_games(510, 60):
            told = table(game, all_standings(game), 500)
            for turning in turnings(game):
                one = dice.choice(all_standings(game))
                other = turned(game, turning, one)
                self.assertEqual(told[other], (-told[one][0] if turning[2] else told[one][0], told[one][1]))
                self.assertEqual(least_alike(game, one)[0], least_alike(game, other)[0])
                self.assertEqual(turned(game, alike(game, one, other), one), other)

    def test_told_as_without(self):
        for game in LIKE + alike_games(511, 60):
            standings = some_standings(512, game, 3)
            rows = solved_alike(game, standings)
            for one, worth, far in solved(game, standings):
                self.assertEqual(read_alike(game, rows, one), (worth, far))


class Variants(unittest.TestCase):
    """(f) of a variant just those standings are reckoned anew from which something otherwise is reached, counted, and all is
    told as reckoned afresh."""

    def check(self, game, other, begins):
        book = Book()
        book.put(game)
        for one in begins:
            book.worth(game[0], one)
        count = book.reckoned()
        self.assertEqual(book.known(game[0]), solved(game, begins))
        staying = kept(game, other, begins)
        hit = set(touched(game, other, begins))
        self.assertEqual(staying, [one for one in sorted(reached(game, begins)) if not hit & set(reached(game, [one]))])
        self.assertEqual(book.would(other), (1, len(staying)))
        self.assertEqual(book.put(other), (1, len(staying)))
        for one in begins:
            self.assertEqual(book.worth(game[0], one), worth_of(other, one))
        told, many = led_over(game, other, solved(game, begins))
        afresh = solved(other, reached(game, begins))
        self.assertEqual((told, many), (afresh, len([row for row in afresh if row[0] not in staying])))
        # From the begins alone less may be reached than from all that were reached by the game.
        fresh = [row for row in solved(other, begins) if row[0] not in staying]
        self.assertEqual(book.reckoned() - count, len(fresh))
        own = table(game, begins)
        self.assertEqual(book.known(game[0]), sorted([(one, *own[one]) for one in staying] + fresh))
        return len(staying), len(reached(game, begins))

    def test_by_one_change(self):
        dice = random.Random(513)
        seen = set()
        for game in small_games(514, 80):
            for number in range(4):
                other = plain_varied(game, random_change(dice, game))
                if other is not None:
                    staying, many = self.check(game, other, some_standings(515, game, 2))
                    seen.add((staying == 0, staying == many))
        self.assertEqual(seen, {(True, False), (False, True), (False, False)})

    def test_by_many_changes(self):
        dice = random.Random(516)
        for game in small_games(517, 60):
            other = other_of(dice, game)
            self.check(game, other, some_standings(518, game, 2))
            here = game
            for change in changes(game, other):
                here = varied(here, change)
            self.assertEqual(here, other)


class Runs(unittest.TestCase):
    """(g) whatever is refused in the midst of a run, the desk is open again, its log has both ends, and nothing of that run is
    left."""

    def rows_of(self, dice, game):
        """Rows that are told, whatever is refused behind them."""
        name = game[0]
        rows = ["put " + game_text(game).replace("\n", " / ")]
        for side, row in some_standings(dice.random(), game, 3):
            rows += [f"worth {name} {side} {row}", f"line {name} {side} {row}", f"alike {name} {side} {row}"]
        return rows + ["undo", "names", rows[0], "reckoned", f"known {name}", f"drop {name}", rows[0]]

    def test_refused_in_the_midst(self):
        dice = random.Random(519)
        game, (side, row) = ONE_MORE[0]
        big = "put " + game_text(("big",) + game[1:]).replace("\n", " / ")
        bad = [("no row", BadRow, "no row"), ("drop nobody", NoGame, "nobody"), ("moves big 0 zz", NoStanding, (0, "zz")),
               ("vary big shape ring", BadChange, ("shape", "ring")), (f"worth big {side} {row}", TooMany, 400),
               (f"mistakes big from {side} {row} / x", BadRow, 1), ("again 400", BadRow, "again 400"), ("again 1", Busy, 1)]
        for game in small_games(520, 15):
            rows = self.rows_of(dice, game)
            for wrong, refusal, what in bad:
                at = dice.randint(1, len(rows))
                desk = Desk()
                desk.ask(big)
                desk.ask(rows[0])
                desk.ask(rows[1])
                ahead, log = view(desk.book()), desk.log()
                with self.assertRaises(refusal) as caught:
                    desk.run(rows[:at] + [wrong] + rows[at:], keep=dice.random() < 0.5, deep=1)
                self.assertEqual(caught.exception.what, what)
                self.assertIs(desk.is_open(), True)
                self.assertEqual(desk.log()[len(log):], [("begin", len(rows) + 1), ("end", at)])
                self.assertEqual(view(desk.book()), ahead)
                book = desk.book()
                self.assertEqual([book.undo(), book.undo(), book.undo()], [True, True, False])

    def test_refused_within(self):
        dice = random.Random(521)
        for game in small_games(522, 15):
            rows = self.rows_of(dice, game)
            desk = Desk()
            desk.run(rows[:2], keep=True)
            ahead = view(desk.book())
            # Once more the name is there no more; the inner run and the outer one have both ends.
            again = [rows[0], f"drop {game[0]}", "names", "again 2"]
            with self.assertRaises(NoGame) as caught:
                desk.run(again, keep=True)
            self.assertEqual(caught.exception.what, game[0])
            self.assertEqual(desk.log()[2:], [("begin", 4), ("begin", 2), ("end", 0), ("end", 3)])
            self.assertEqual((desk.is_open(), view(desk.book())), (True, ahead))


if __name__ == "__main__":
    unittest.main()
