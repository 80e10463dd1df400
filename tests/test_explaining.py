import unittest

from solvedplay.explaining import explained
from solvedplay.records import told_moves
from tests.asking import FORKED, LONG, LONGER, RINGED, ROUND, START, STEP, STOP, STUCK, WALK, WALKED, small_games
from tests.oracle import listed
from tests.test_mistakes import FORTY, PASSES, SNATCH, behind_record, drawn_records


class Explained(unittest.TestCase):
    def test_no_moves(self):
        self.assertEqual(explained(WALK, (START, [])), [])
        self.assertEqual(explained(STUCK, ((1, ".x"), [])), [])

    def test_each_word(self):
        self.assertEqual(explained(FORKED, WALKED), ["0 0 1:x.>.x best 5 2", "1 1 0:a>b best 5 1", "2 0 2:x.>.x best 5 0"])
        self.assertEqual(explained(FORKED, (START, [STOP])), ["0 0 1:x.>.. mistake 2 0 gives 3"])
        game = FORKED[:5] + (((2, "...", 5), (2, "..x", 5)), (0, 0))
        self.assertEqual(explained(game, (START, [STEP])), ["0 0 1:x.>.x slower 5 2"])
        game = FORKED[:5] + (((2, "...", -5), (2, "..x", -5)), (0, 0))
        self.assertEqual(explained(game, (START, [STOP])), ["0 0 1:x.>.. sooner -5 0"])

    def test_none(self):
        record = ((0, "aa"), [(0, "a", "b"), (0, "b", "a"), (0, "aa", "cc")])
        self.assertEqual(explained(ROUND, record), ["0 0 0:a>b best 0 -", "1 1 0:b>a best 0 -",
                                                    "2 0 0:aa>cc mistake -7 0 gives 7"])

    def test_a_mistake_to_none(self):
        game = ROUND[:5] + (((2, "cc", 7),), (0, 0))
        self.assertEqual(explained(game, ((0, "aa"), [(0, "a", "b")])), ["0 0 0:a>b slower 7 2"])
        game = ROUND[:4] + (((("a", "b"), ("aa", "cc"), ("b", "a")), (("a", "b"), ("b", "a"))), ((2, "cc", 7),), (0, 0))
        found = [explained(game, ((0, row), [(0, row[0], "ab"[row[0] == "a"])])) for row in ("aa", "ab", "ba", "bb")]
        self.assertIn(["0 0 0:a>b mistake 0 - gives 7"], found)

    def test_forty_and_more(self):
        texts = explained(SNATCH, FORTY)
        self.assertEqual(texts[::39], ["0 0 0:a>b mistake -5 1 gives 10", "39 1 0:b>a mistake 5 1 gives 10"])
        self.assertEqual(len(texts), 40)
        self.assertEqual(explained(RINGED, LONG)[39], "39 1 0:x.>.x best 0 -")
        self.assertEqual(explained(RINGED, LONGER)[40], "40 0 1:x.>.x best 0 -")

    def test_the_side_that_begins(self):
        self.assertEqual(explained(SNATCH, ((1, "aa"), PASSES)),
                         ["0 1 0:a>b mistake 5 1 gives 10", "1 0 0:b>a mistake -5 1 gives 10"])

    def test_drawn(self):
        words = set()
        for game, told, record in drawn_records(321, small_games(322, 300), 15):
            standings = behind_record(game, record)
            want = []
            for at, (word, worth, far) in enumerate(told_moves(game, record)):
                place, old, new = record[1][at]
                parts = [at, standings[at][0], f"{place}:{old}>{new}", word, worth, "-" if far is None else far]
                if word == "mistake":
                    parts += ["gives", abs(worth - told[standings[at]][0])]
                want.append(" ".join(str(part) for part in parts))
                words.add(word)
            self.assertEqual(explained(game, record), want)
        self.assertEqual(words, {"best", "mistake", "slower", "sooner"})

    def test_kinds_and_lists(self):
        for record in (WALKED, listed(WALKED), (START, tuple(WALKED[1]))):
            self.assertEqual(repr(explained(listed(WALK), record)), repr(explained(WALK, WALKED)))
        told = explained(WALK, WALKED)
        told.clear()
        self.assertEqual(len(explained(WALK, WALKED)), 3)


if __name__ == "__main__":
    unittest.main()
