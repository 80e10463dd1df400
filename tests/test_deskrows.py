import random
import unittest

from solvedplay.deskrows import deskrow_in
from solvedplay.errors import BadRow
from solvedplay.gametext import game_text
from tests.asking import FORKED, TAKING, WALK, refused
from tests.oracle import game_of
from tests.plain_deskrows import plain_row, random_row, spoilt_row
from tests.test_variants import FULL

ROW = "abcdefgh"
GAME_ROW = "game toy line .x 2 / rule 0 x. .x / end 2 xx 5 / stuck -1 1"
GAME = game_of(".x", 2, ((("x.", ".x"),), ()), ((2, "xx", 5),), (-1, 1))


class Read(unittest.TestCase):
    def check(self, text, want):
        self.assertEqual(repr(deskrow_in(text)), repr(want))
        self.assertEqual(repr(deskrow_in(text=text)), repr(want))

    def test_put_and_would(self):
        for word in ("put", "would"):
            self.check(f"{word} {GAME_ROW}", (word, GAME))
            self.check(f"{word} game a ring ab 7 / stuck 0 0", (word, game_of("ab", 7, shape="ring", name="a")))
            for game in (WALK, FORKED, TAKING, FULL):
                self.check(f"{word} " + game_text(game).replace("\n", " / "), (word, game))

    def test_vary(self):
        self.check("vary toy shape ring", ("vary", "toy", ("shape", "ring")))
        self.check("vary toy norule 0 x. .x", ("vary", "toy", ("norule", 0, "x.", ".x")))
        self.check("vary toy rule 0 x. .x", ("vary", "toy", ("rule", 0, "x.", ".x")))
        self.check("vary toy noend 2 xx 5", ("vary", "toy", ("noend", 2, "xx", 5)))
        self.check("vary toy end 2 xx -5", ("vary", "toy", ("end", 2, "xx", -5)))
        self.check("vary toy stuck 1 0", ("vary", "toy", ("stuck", 1, 0)))

    def test_vary_whatever_it_stands_for(self):
        self.check("vary a shape .", ("vary", "a", ("shape", ".")))
        self.check("vary a shape " + "knot." * 100, ("vary", "a", ("shape", "knot." * 100)))
        self.check("vary a rule 400 a " + "b" * 99, ("vary", "a", ("rule", 400, "a", "b" * 99)))
        self.check("vary a norule -400 a a", ("vary", "a", ("norule", -400, "a", "a")))
        self.check("vary a end -1 z 400", ("vary", "a", ("end", -1, "z", 400)))
        self.check("vary a noend 0 z -400", ("vary", "a", ("noend", 0, "z", -400)))
        self.check("vary a stuck -400 400", ("vary", "a", ("stuck", -400, 400)))
        self.check("vary shape shape shape", ("vary", "shape", ("shape", "shape")))

    def test_a_name(self):
        for word in ("drop", "text", "editions", "known"):
            for name in ("a", "toy", ROW, word[:8], "zzzzzzzz"):
                self.check(f"{word} {name}", (word, name))

    def test_alone(self):
        for word in ("undo", "names", "reckoned"):
            self.check(word, (word,))

    def test_a_standing(self):
        for word in ("moves", "worth", "line", "round", "alike"):
            self.check(f"{word} toy 0 x.", (word, "toy", (0, "x.")))
            self.check(f"{word} {ROW} 1 .az.zzz", (word, ROW, (1, ".az.zzz")))

    def test_within(self):
        for number in (0, 1, 9, 10, 40):
            self.check(f"within toy 1 x.x {number}", ("within", "toy", (1, "x.x"), number))

    def test_mistakes(self):
        self.check("mistakes toy from 0 x.", ("mistakes", "toy", "from 0 x."))
        self.check("mistakes toy from 0 x. / 0 x. .x", ("mistakes", "toy", "from 0 x.\n0 x. .x"))
        self.check("mistakes toy from 0 x. / 0 x. .x / 1 .x x.", ("mistakes", "toy", "from 0 x.\n0 x. .x\n1 .x x."))

    def test_mistakes_with_any_text(self):
        for text, want in ((" ", " "), ("  ", "  "), ("/", "/"), (" / ", "\n"), (" / x", "\nx"), ("x / ", "x\n"), (" x", " x"),
                           ("x ", "x "),
                           ("x  y", "x  y"), ("a / / b", "a\n/ b"), ("a /  / b", "a\n\nb"), (" /  / ", "\n\n"), ("a/b", "a/b"),
                           ("/ a", "/ a"),
                           ("a /", "a /"), ("A~!\"#", "A~!\"#"), ("from", "from"), ("\t", "\t"), ("\r", "\r"),
                           ("0 0 0", "0 0 0")):
            self.check(f"mistakes toy {text}", ("mistakes", "toy", want))

    def test_again(self):
        for number in (1, 2, 10, 99, 400):
            self.check(f"again {number}", ("again", number))


class Refused(unittest.TestCase):
    def check(self, *texts):
        for text in texts:
            refused(self, BadRow, text, lambda: deskrow_in(text))

    def test_no_row(self):
        self.check("", " ", "  ", "\n", "/", "-", "toy", "hop 0 x.", "ask", "run", "PUT", "0", "undo undo", "and",
                   "paper toy 0 x.",
                   "game toy line .x 2", "as toy 0", "twin", "log", "within", "again", "put", "would", "vary", "mistakes")

    def test_a_word_out_or_one_more(self):
        rows = ["undo", "names", "reckoned", "drop toy", "text toy", "editions toy", "known toy", "moves toy 0 x.",
                "worth toy 0 x.",
                "line toy 0 x.", "round toy 0 x.", "alike toy 0 x.", "within toy 0 x. 3", "again 3", "vary toy shape ring",
                "vary toy rule 0 x. .x", "vary toy norule 0 x. .x", "vary toy end 0 x. 4", "vary toy noend 0 x. 4",
                "vary toy stuck 0 4",
                "put game toy line .x 2 / stuck 0 0", "would game toy line .x 2 / stuck 0 0"]
        for row in rows:
            deskrow_in(row)
            words = row.split(" ")
            for at in range(len(words)):
                self.check(" ".join(words[:at] + words[at + 1:]), " ".join(words[:at] + [""] + words[at + 1:]),
                           " ".join(words[:at] + [""] + words[at:]), " ".join(words[:at] + ["A"] + words[at + 1:]),
                           " ".join(words[:at] + ["\u0661"] + words[at + 1:]),
                           "\t".join([" ".join(words[:at]), " ".join(words[at:])]))
                self.check(" ".join(words[:at + 1] + words[at:]))
            self.check(row + " ", " " + row, row + " x", row + " 0", row + "\n", "\n" + row, row.upper(), row + "\t",
                       row + "\r", row + " / ",
                       row + "%", row + "/")

    def test_names(self):
        for name in ("", "abcdefghi", "Toy", "to.y", "toy1", "1", ".", "to-y", "\u00e4", "t o", "-"):
            self.check(f"drop {name}", f"text {name}", f"editions {name}", f"known {name}", f"moves {name} 0 x.",
                       f"worth {name} 0 x.",
                       f"line {name} 0 x.", f"round {name} 0 x.", f"alike {name} 0 x.", f"within {name} 0 x. 3",
                       f"vary {name} shape ring", f"mistakes {name} from 0 x." if name != "t o" else "mistakes t",
                       f"drop {name} x")

    def test_sides(self):
        for word in ("moves", "worth", "line", "round", "alike"):
            for side in ("2", "-1", "-0", "00", "01", "+0", "", "x", "10", "\u0660", "9" * 5000):
                self.check(f"{word} toy {side} x.", f"within toy {side} x. 3")

    def test_rows_of_beads(self):
        for row in ("x", "", "xxxxxxxx", "xX", "x1", "x-", "x x", "x\u00e9", "x>", "x" * 600):
            for word in ("moves", "worth", "line", "round", "alike"):
                self.check(f"{word} toy 0 {row}")
            self.check(f"within toy 0 {row} 3")

    def test_numbers(self):
        for number in ("00", "01", "-0", "+1", "1.0", "", "x", "\u0661", "1_0", "9" * 5000, " 1", "0x1", "-"):
            self.check(f"within toy 0 x. {number}", f"again {number}", f"vary toy stuck 0 {number}", f"vary toy stuck {number} 0",
                       f"vary toy rule {number} a b", f"vary toy norule {number} a b", f"vary toy end {number} a 1",
                       f"vary toy end 1 a {number}", f"vary toy noend 1 a {number}", f"vary toy noend {number} a 1")
        for number in ("41", "400", "100", "-1"):
            self.check(f"within toy 0 x. {number}")
        for number in ("0", "401", "1000", "-1", "-400"):
            self.check(f"again {number}")
        for number in ("401", "-401", "1000", "-1000"):
            self.check(f"vary toy stuck 0 {number}", f"vary toy stuck {number} 0", f"vary toy rule {number} a b",
                       f"vary toy end 1 a {number}")

    def test_changes(self):
        self.check("vary toy", "vary toy ", "vary toy ring", "vary toy shape", "vary toy shape ", "vary toy shape 1",
                   "vary toy shape Ring",
                   "vary toy shape a b", "vary toy rule 0 a", "vary toy rule 0 a b c", "vary toy rule a b", "vary toy rule x a b",
                   "vary toy rule 0 1 b", "vary toy rule 0 a 1", "vary toy rule 0 a>b", "vary toy end 0 a", "vary toy end 0 1 1",
                   "vary toy end 0 a b", "vary toy end 0 1", "vary toy stuck 0", "vary toy stuck 0 0 0", "vary toy stuck a 0",
                   "vary toy stuck 0 .", "vary toy norule", "vary toy noend", "vary toy nostuck 0 1", "vary shape ring",
                   "vary toy Shape ring", "vary toy put 0", "vary toy rule 0  b", "vary toy ('shape', 'ring')")

    def test_games(self):
        for word in ("put", "would"):
            for text in ("toy", "game", GAME_ROW + " / ", " / " + GAME_ROW, GAME_ROW.replace(" / ", "/"),
                         GAME_ROW.replace(" / ", " "),
                         GAME_ROW.replace(" / ", "  /  "), GAME_ROW.replace(" / ", "\n"), GAME_ROW.replace(" / ", " / / "),
                         GAME_ROW.replace(" / ", " /  / "), GAME_ROW + " / stuck 0 0", GAME_ROW.replace("toy", "toytoytoy"),
                         GAME_ROW.replace("line", "knot"), GAME_ROW.replace("5", "05"), GAME_ROW.replace("5", "0"),
                         GAME_ROW.replace(" / stuck -1 1", ""), GAME_ROW.replace("rule 0 x. .x", "rule 0 x. x."), " " + GAME_ROW,
                         GAME_ROW + " ", "'" + GAME_ROW + "'", game_text(GAME)):
                self.check(f"{word} {text}")

    def test_mistakes(self):
        self.check("mistakes", "mistakes ", "mistakes toy", "mistakes toy ", "mistakes  toy x", " mistakes toy x",
                   "mistakes Toy x",
                   "mistakes toy x\n", "mistakes toy x\ny", "mistakes toy \n", "mistakes\ntoy x", "mistakes toy\nx", "mistakes /")

    def test_line_feeds(self):
        for row in ("undo", "again 1", "drop toy", "worth toy 0 x.", f"put {GAME_ROW}", "vary toy shape ring",
                    "mistakes toy x / y"):
            for at in range(len(row) + 1):
                self.check(row[:at] + "\n" + row[at:], row[:at] + "\n" + row[at + 1:])


class Drawn(unittest.TestCase):
    def check(self, text):
        want = plain_row(text)
        if want is None:
            refused(self, BadRow, text, lambda: deskrow_in(text))
        else:
            self.assertEqual(repr(deskrow_in(text)), repr(want))
        return want

    def test_right_ones(self):
        dice = random.Random(441)
        words = set()
        for number in range(1500):
            words.add(self.check(random_row(dice))[0])
        self.assertEqual(len(words), 18)

    def test_spoilt_ones(self):
        dice = random.Random(442)
        seen = {True: 0, False: 0}
        for number in range(6000):
            text = random_row(dice)
            for times in range(dice.randint(1, 2)):
                text = spoilt_row(dice, text)
            seen[self.check(text) is None] += 1
        self.assertTrue(min(seen.values()) > 500, seen)


if __name__ == "__main__":
    unittest.main()
