"""What holds of all that is handed in and told: kinds, names, whose a list is."""

import copy
import unittest

from solvedplay.ahead import known_by, within
from solvedplay.classes import read_alike, solved_alike
from solvedplay.deskrows import deskrow_in
from solvedplay.errors import BadRow, NoMove, TooMany
from solvedplay.explaining import explained
from solvedplay.farpapers import far_paper, shows_far
from solvedplay.games import is_game, is_standing
from solvedplay.gametext import game_in, game_text
from solvedplay.leading import kept, led_over, touched
from solvedplay.mistakes import given_away, mistakes
from solvedplay.moves import done, ended, moves, places_of
from solvedplay.papers import paper, shows_rows, shows_worth
from solvedplay.papertext import paper_in, paper_text
from solvedplay.plans import best_plan, counter, plan_worth
from solvedplay.playing import best_moves, judged, line, puzzles
from solvedplay.reach import reached, unused, ways_back
from solvedplay.records import played, told_moves
from solvedplay.recordtext import record_in, record_text
from solvedplay.rounds import back_in, round_word
from solvedplay.solving import solved, worth_of
from solvedplay.tablepapers import shows_solved
from solvedplay.tabletext import table_in, table_text
from solvedplay.turnings import alike, least_alike, turned, turned_game, turned_move, turnings
from solvedplay.variants import changes, varied
from tests.oracle import game_of, listed

GAME = game_of(".ab", 3, ((("a", "."), ("a", "b"), ("ab", "ba"), ("b", ".")), ((".", "a"), ("b.", ".b"))),
               ((0, "...", 4), (1, "bbb", -3), (2, "aaa", 2)), (-1, 0), "ring")
PLAIN = game_of(".ab", 3, ((), ()), (), (5, -5))
ROUND = game_of("ab", 2, ((("a", "b"), ("b", "a")), (("a", "b"), ("b", "a"))))
# With two mistakes, and moves behind each.
RECORD = ((0, "..b"), [(2, "b", "."), (0, ".", "a"), (0, "a", "b"), (1, ".", "a"), (1, "a", "b")])
PLAN = [((1, "ab"), (0, "a", "b")), ((1, "ba"), (1, "a", "b"))]

# Each with its arguments by their names, in their places.
CALLS = [
    (game_text, {"game": GAME}),
    (game_text, {"game": PLAIN}),
    (game_in, {"text": "game toy ring .ab 3\nrule 0 a b\nend 2 aaa 2\nstuck 0 0"}),
    (game_in, {"text": "game toy ring .ab 3\nrule 0 a a\nend 2 aaa 2\nstuck 0 0"}),
    (places_of, {"game": GAME, "row": "abb", "text": "ba"}),
    (places_of, {"game": PLAIN, "row": "bbb", "text": "b"}),
    (ended, {"game": GAME, "standing": (0, "...")}),
    (ended, {"game": GAME, "standing": (1, "bab")}),
    (ended, {"game": PLAIN, "standing": (1, "bab")}),
    (moves, {"game": GAME, "standing": (0, "bab")}),
    (moves, {"game": GAME, "standing": (0, "...")}),
    (done, {"game": GAME, "standing": (0, "bab"), "move": (1, "ab", "ba")}),
    (done, {"game": GAME, "standing": (0, "bab"), "move": (0, "ab", "ba")}),
    (done, {"game": GAME, "standing": (0, "bab"), "move": (True, "ab", "ba")}),
    (done, {"game": PLAIN, "standing": (0, "bab"), "move": ()}),
    (reached, {"game": GAME, "standings": [(0, "bab"), (0, "..a"), (0, "bab")]}),
    (reached, {"game": GAME, "standings": [(0, "bab")], "most": 54}),
    (reached, {"game": GAME, "standings": [(0, "bab")], "most": 3}),
    (reached, {"game": PLAIN, "standings": [(0, "bab"), (0, "..a"), (0, "bab")], "most": 2}),
    (reached, {"game": PLAIN, "standings": []}),
    (unused, {"game": GAME, "standings": [(0, "..."), (0, "aab")]}),
    (unused, {"game": GAME, "standings": [(0, "...")], "most": 1}),
    (unused, {"game": GAME, "standings": [(0, "aab")], "most": 2}),
    (ways_back, {"game": GAME, "standings": [(0, "bab")], "goal": (1, ".ab")}),
    (ways_back, {"game": GAME, "standings": [(0, "bab"), (0, "..b")], "goal": (1, "..."), "most": 54}),
    (ways_back, {"game": GAME, "standings": [(0, "bab")], "goal": (1, ".ab"), "most": 1}),
    (solved, {"game": GAME, "standings": [(0, "bab"), (0, "..a"), (0, "bab")]}),
    (solved, {"game": PLAIN, "standings": [(0, "bab"), (0, "..a"), (0, "bab")], "most": 2}),
    (solved, {"game": GAME, "standings": [(0, "bab")], "most": 5}),
    (worth_of, {"game": GAME, "standing": (0, "bab")}),
    (worth_of, {"game": GAME, "standing": (0, "bab"), "most": 54}),
    (worth_of, {"game": GAME, "standing": (0, "bab"), "most": 5}),
    (round_word, {"game": GAME, "standing": (0, "bab")}),
    (round_word, {"game": ROUND, "standing": (1, "ab"), "most": 54}),
    (round_word, {"game": GAME, "standing": (0, "bab"), "most": 5}),
    (back_in, {"game": GAME, "standing": (0, "bab")}),
    (back_in, {"game": ROUND, "standing": (1, "ab"), "most": 54}),
    (back_in, {"game": GAME, "standing": (0, "bab"), "most": 5}),
    (within, {"game": GAME, "standing": (0, "bab"), "deep": 4}),
    (within, {"game": GAME, "standing": (1, "aaa"), "deep": 0}),
    (known_by, {"game": GAME, "standing": (0, "bab"), "deep": 4}),
    (known_by, {"game": PLAIN, "standing": (0, "bab"), "deep": 4}),
    (paper, {"game": GAME, "standing": (0, "bab")}),
    (paper, {"game": PLAIN, "standing": (0, "bab"), "most": 1}),
    (paper, {"game": ROUND, "standing": (1, "ab"), "most": 8}),
    (paper, {"game": ROUND, "standing": (1, "ab"), "most": 3}),
    (far_paper, {"game": GAME, "standing": (1, "..a")}),
    (far_paper, {"game": GAME, "standing": (1, "bb."), "most": 54}),
    (far_paper, {"game": PLAIN, "standing": (0, "bab"), "most": 1}),
    (far_paper, {"game": ROUND, "standing": (1, "ab"), "most": 3}),
    (table_text, {"rows": [((0, "bab"), 0, None), ((1, "..."), -4, 12)]}),
    (table_text, {"rows": []}),
    (table_in, {"game": GAME, "text": "0 bab 0 -\n1 ... -4 12"}),
    (table_in, {"game": GAME, "text": "-"}),
    (table_in, {"game": GAME, "text": "0 bab 0 -\n1 ... -4 -"}),
    (paper_text, {"thing": (3, [((0, "bab"), (1, "a", "b"), 2)], [((0, "bab"), None, None)])}),
    (paper_text, {"thing": (0, [], [])}),
    (paper_in, {"game": GAME, "text": "paper 3\nleast 0 bab 1:a>b 2\nmost 0 bab - -"}),
    (paper_in, {"game": GAME, "text": "paper 3"}),
    (paper_in, {"game": GAME, "text": "paper 3\nleast 0 bab 1:a>bb 2"}),
    (judged, {"game": GAME, "standing": (0, "bab")}),
    (judged, {"game": PLAIN, "standing": (0, "bab"), "most": 1}),
    (judged, {"game": ROUND, "standing": (1, "ab"), "most": 3}),
    (best_moves, {"game": GAME, "standing": (0, "bab")}),
    (best_moves, {"game": ROUND, "standing": (1, "ab"), "most": 3}),
    (line, {"game": GAME, "standing": (0, "bab")}),
    (line, {"game": PLAIN, "standing": (0, "bab"), "most": 1}),
    (line, {"game": ROUND, "standing": (1, "ab"), "most": 8}),
    (line, {"game": ROUND, "standing": (1, "ab"), "most": 3}),
    (puzzles, {"game": GAME, "standings": [(0, "bab"), (0, "..a")], "far": 6}),
    (puzzles, {"game": GAME, "standings": [(0, "bab"), (0, "..a")], "far": 2, "most": 60}),
    (puzzles, {"game": ROUND, "standings": [(1, "ab")], "far": 2, "most": 3}),
    (best_plan, {"game": GAME, "standing": (0, "bab"), "side": 0}),
    (best_plan, {"game": GAME, "standing": (0, "bab"), "side": 1, "most": 60}),
    (best_plan, {"game": ROUND, "standing": (1, "ab"), "side": 1, "most": 3}),
    (plan_worth, {"game": ROUND, "standing": (1, "ab"), "side": 1, "plan": PLAN}),
    (plan_worth, {"game": ROUND, "standing": (1, "ab"), "side": 1, "plan": PLAN[:1]}),
    (plan_worth, {"game": ROUND, "standing": (1, "ab"), "side": 1, "plan": PLAN, "most": 2}),
    (plan_worth, {"game": PLAIN, "standing": (0, "bab"), "side": 0, "plan": [], "most": 1}),
    (counter, {"game": ROUND, "standing": (1, "ab"), "side": 1, "plan": PLAN}),
    (counter, {"game": ROUND, "standing": (1, "ab"), "side": 1, "plan": [((1, "ab"), (False, "a", "b"))]}),
    (counter, {"game": ROUND, "standing": (1, "ab"), "side": 1, "plan": PLAN, "most": 4}),
    (counter, {"game": ROUND, "standing": (1, "ab"), "side": 1, "plan": PLAN, "most": 2}),
    (played, {"game": ROUND, "record": ((1, "ab"), [(0, "a", "b"), (1, "b", "a")])}),
    (played, {"game": ROUND, "record": ((1, "ab"), [(0, "a", "b"), (True, "b", "a")])}),
    (played, {"game": PLAIN, "record": ((1, "bab"), [])}),
    (told_moves, {"game": ROUND, "record": ((1, "ab"), [(0, "a", "b"), (1, "b", "a")])}),
    (told_moves, {"game": ROUND, "record": ((1, "ab"), [(0, "a", "b"), (1, "b", "a")]), "most": 8}),
    (told_moves, {"game": ROUND, "record": ((1, "ab"), [(0, "a", "b"), (1, "a")])}),
    (told_moves, {"game": ROUND, "record": ((1, "ab"), []), "most": 3}),
    (record_text, {"record": ((1, "ab"), [(0, "a", "b"), (1, "b", "a")])}),
    (record_text, {"record": ((1, "ab"), [])}),
    (record_in, {"game": ROUND, "text": "from 1 ab\n0 a b\n1 b a"}),
    (record_in, {"game": ROUND, "text": "from 1 ab"}),
    (record_in, {"game": ROUND, "text": "from 1 ab\n0 a b\n1 a b"}),
    (mistakes, {"game": GAME, "record": RECORD}),
    (mistakes, {"game": GAME, "record": RECORD, "most": 54}),
    (mistakes, {"game": GAME, "record": (RECORD[0], RECORD[1] + [(0, "a")])}),
    (mistakes, {"game": GAME, "record": (RECORD[0], []), "most": 3}),
    (given_away, {"game": GAME, "record": RECORD}),
    (given_away, {"game": GAME, "record": (RECORD[0], RECORD[1] + [(True, "b", ".")]), "most": 54}),
    (given_away, {"game": GAME, "record": RECORD, "most": 3}),
    (explained, {"game": GAME, "record": RECORD}),
    (explained, {"game": GAME, "record": (RECORD[0], RECORD[1] + [()]), "most": 54}),
    (explained, {"game": GAME, "record": RECORD, "most": 3}),
    (turned, {"game": GAME, "turning": (1, 2, 1, "ab."), "standing": (0, "ba.")}),
    (turned_move, {"game": GAME, "turning": (1, 2, 1, "ab."), "move": (2, "b.", ".b")}),
    (turned_game, {"game": GAME, "turning": (1, 2, 1, "ab.")}),
    (turnings, {"game": GAME}),
    (turnings, {"game": ROUND}),
    (alike, {"game": GAME, "one": (0, "ba."), "other": (0, ".ba")}),
    (alike, {"game": GAME, "one": (0, "ba."), "other": (1, ".ba")}),
    (least_alike, {"game": ROUND, "standing": (1, "ba")}),
    (solved_alike, {"game": GAME, "standings": [(0, "bab"), (0, "..a"), (0, "bab")]}),
    (solved_alike, {"game": ROUND, "standings": [(1, "ab")], "most": 2}),
    (solved_alike, {"game": ROUND, "standings": [(1, "ab")], "most": 1}),
    (solved_alike, {"game": PLAIN, "standings": []}),
    (read_alike, {"game": ROUND, "rows": [((0, "aa"), 3, 2), ((0, "ab"), 0, None)], "standing": (1, "ba")}),
    (read_alike, {"game": ROUND, "rows": [((0, "aa"), 3, 2), ((0, "ab"), 0, None)], "standing": (1, "bb")}),
    (read_alike, {"game": ROUND, "rows": [((0, "aa"), 3, 2)], "standing": (1, "ba")}),
    (varied, {"game": GAME, "change": ("rule", 1, "ab", "ba")}),
    (varied, {"game": GAME, "change": ("noend", 2, "aaa", 2)}),
    (varied, {"game": PLAIN, "change": ("stuck", 0, -5)}),
    (changes, {"game": GAME, "other": PLAIN}),
    (changes, {"game": PLAIN, "other": GAME}),
    (changes, {"game": PLAIN, "other": PLAIN}),
    (touched, {"game": GAME, "other": PLAIN, "standings": [(0, "bab"), (0, "..a"), (0, "bab")]}),
    (touched, {"game": PLAIN, "other": GAME, "standings": [(0, "bab")], "most": 1}),
    (touched, {"game": GAME, "other": PLAIN, "standings": [(0, "bab")], "most": 1}),
    (kept, {"game": PLAIN, "other": GAME, "standings": [(0, "bab"), (0, "...")]}),
    (kept, {"game": GAME, "other": GAME, "standings": [(0, "bab")], "most": 54}),
    (kept, {"game": GAME, "other": PLAIN, "standings": [(0, "bab")], "most": 1}),
    (led_over, {"game": PLAIN, "other": GAME, "rows": [((0, "bab"), 5, 0)]}),
    (led_over, {"game": PLAIN, "other": GAME, "rows": [((0, "bab"), 5, 0)], "most": 54}),
    (led_over, {"game": PLAIN, "other": GAME, "rows": [((0, "bab"), 5, 0)], "most": 3}),
    (led_over, {"game": PLAIN, "other": GAME, "rows": []}),
    (deskrow_in, {"text": "worth toy 0 bab"}),
    (deskrow_in, {"text": "put game toy ring .ab 3 / rule 0 a b / end 2 aaa 2 / stuck 0 0"}),
    (deskrow_in, {"text": "vary toy rule 0 a b"}),
    (deskrow_in, {"text": "mistakes toy from 0 bab / 0 a b"}),
    (deskrow_in, {"text": "worth toy 2 bab"}),
]

REFUSALS = (BadRow, NoMove, TooMany)


def outcome(function, *places, **names):
    """What is told, or which refusal with what, shown so that kinds count."""
    try:
        return repr(function(*places, **names))
    except REFUSALS as refusal:
        return (type(refusal), repr(refusal.what))


def tupled(thing):
    return tuple(tupled(part) for part in thing) if isinstance(thing, (list, tuple)) else thing


def lists_in(thing):
    """All lists in what is told, itself counted."""
    if not isinstance(thing, (list, tuple)):
        return []
    return ([thing] if isinstance(thing, list) else []) + [one for part in thing for one in lists_in(part)]


class HandedIn(unittest.TestCase):
    def test_by_place_and_by_name(self):
        for function, names in CALLS:
            plain = {name: names[name] for name in names if name != "most"}
            most = {name: names[name] for name in names if name == "most"}
            want = outcome(function, *plain.values(), **most)
            self.assertEqual(outcome(function, **names), want, function)
            for many in range(len(plain)):
                first = list(plain.values())[:many]
                rest = {name: plain[name] for name in list(plain)[many:]}
                self.assertEqual(outcome(function, *first, **rest, **most), want, function)

    def test_lists_for_tuples_and_tuples_for_lists(self):
        for function, names in CALLS:
            want = outcome(function, **names)
            for turned in (listed, tupled):
                self.assertEqual(outcome(function, **{name: turned(names[name]) for name in names}), want, function)
                for name in names:
                    self.assertEqual(outcome(function, **{**names, name: turned(names[name])}), want, (function, name))

    def test_one_list_in_a_tuple(self):
        # Not all the way down: the outer one, or the inner ones alone.
        outer = list(GAME)
        inner = tuple(list(part) if isinstance(part, tuple) else part for part in GAME)
        rules = GAME[:4] + (tuple(tuple(list(rule) for rule in side) for side in GAME[4]),) + GAME[5:]
        for function, names in CALLS:
            if names.get("game") == GAME:
                for game in (outer, inner, rules):
                    self.assertEqual(outcome(function, **{**names, "game": game}), outcome(function, **names), function)

    def test_nothing_handed_in_is_changed(self):
        for function, names in CALLS:
            for turned in (listed, tupled):
                handed = {name: turned(names[name]) for name in names}
                ahead = copy.deepcopy(handed)
                outcome(function, **handed)
                self.assertEqual(repr(handed), repr(ahead), function)

    def test_told_the_same_again(self):
        for function, names in CALLS:
            self.assertEqual(outcome(function, **names), outcome(function, **names), function)

    def test_told_lists_are_the_askers_own(self):
        for function, names in CALLS:
            want = outcome(function, **names)
            if not isinstance(want, str):
                continue
            handed = {name: listed(names[name]) for name in names}
            ahead = repr(handed)
            told, other = function(**handed), function(**handed)
            self.assertEqual(len({id(one) for one in lists_in([told, other])}), len(lists_in([told, other])), function)
            for one in lists_in(told):
                one.append("changed")
                one.reverse()
            self.assertEqual((repr(handed), repr(other)), (ahead, want), function)
            self.assertEqual(outcome(function, **handed), want, function)

    def test_handed_in_is_not_kept(self):
        for function, names in CALLS:
            want = outcome(function, **names)
            handed = {name: listed(names[name]) for name in names}
            try:
                told = function(**handed)
            except REFUSALS as refusal:
                told = refusal
            for one in lists_in(list(handed.values())):
                one.clear()
            shown = (type(told), repr(told.what)) if isinstance(told, REFUSALS) else repr(told)
            self.assertEqual(shown, want, function)


class AskedOf(unittest.TestCase):
    """In what is_.. is asked of, no list stands for a tuple."""

    def test_lists_count_there(self):
        self.assertIs(is_game(GAME), True)
        self.assertIs(is_game(listed(GAME)), False)
        self.assertIs(is_standing(listed(GAME), (0, "bab")), True)
        self.assertIs(is_standing(listed(GAME), [0, "bab"]), False)

    def test_things_asked_of_stay(self):
        for thing in (listed(GAME), list(GAME), [0, "bab"], [[[]], (None, [True])]):
            ahead = copy.deepcopy(thing)
            game = listed(GAME)
            is_game(thing)
            is_standing(game, thing)
            self.assertEqual((repr(thing), game), (repr(ahead), listed(GAME)))

    def test_lists_count_in_papers(self):
        """What is told stands, with lists for the game and the standing, too, but not with lists for its tuples."""
        for standing in ((0, "bab"), (1, "..a"), (1, "bb."), (0, "...")):
            told = [(shows_worth, (standing,), paper(GAME, standing)),
                    (shows_rows, (0, worth_of(GAME, standing)[0]), paper(GAME, standing)[1]),
                    (shows_solved, ([standing],), solved(GAME, [standing]))]
            if far_paper(GAME, standing) is not None:
                told.append((shows_far, (standing,), far_paper(GAME, standing)))
            for function, besides, thing in told:
                self.assertIs(function(GAME, *besides, thing), True, function)
                self.assertIs(function(listed(GAME), *listed(besides), thing), True, function)
                self.assertIs(function(GAME, *tupled(besides), thing), True, function)
                self.assertIs(function(GAME, *besides, listed(thing)), False, function)
                self.assertIs(function(GAME, *besides, tupled(thing)), False, function)

    def test_by_names(self):
        self.assertIs(is_game(thing=GAME), True)
        self.assertIs(is_standing(game=GAME, thing=(1, "..a")), True)
        self.assertIs(is_standing(GAME, thing=(1, "..c")), False)


class Asking(unittest.TestCase):
    def test_the_order_in_which_it_is_asked_is_no_matter(self):
        wants = [outcome(function, **names) for function, names in CALLS]
        others = [outcome(function, **names) for function, names in CALLS[::-1]]
        self.assertEqual(wants, others[::-1])

    def test_some_are_told_and_some_refused(self):
        kinds = {type(outcome(function, **names)) for function, names in CALLS if function in (reached, solved, done)}
        self.assertEqual(kinds, {str, tuple})


class Refusals(unittest.TestCase):
    def test_a_refusal_changes_nothing(self):
        for move in ((9, "a", "b"), [9, "a", "b"], (True, "ab", "ba")):
            with self.assertRaises(NoMove):
                done(GAME, (0, "bab"), move)
            self.assertEqual(moves(GAME, (0, "bab")), [(0, "b", "."), (1, "a", "."), (1, "a", "b"), (1, "ab", "ba"),
                                                       (2, "b", ".")])


if __name__ == "__main__":
    unittest.main()
