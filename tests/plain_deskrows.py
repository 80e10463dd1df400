"""A desk's rows read by their patterns, and rows to ask. Nothing here reads the program but what reads a game's text."""

import re

from solvedplay.errors import BadRow
from solvedplay.gametext import game_in, game_text
from tests.oracle import random_game
from tests.plain_variants import random_change

NAME = "[a-z]{1,8}"
SIDE_ROW = "([01]) ([.a-z]{2,7})"
FIGURES = "(0|[1-9][0-9]{0,2})"
NUMBER = "(0|-?[1-9][0-9]{0,2})"
TEXT = "([.a-z]+)"
CHANGES = {"shape": [TEXT], "norule": [NUMBER, TEXT, TEXT], "rule": [NUMBER, TEXT, TEXT], "noend": [NUMBER, TEXT, NUMBER],
           "end": [NUMBER, TEXT, NUMBER], "stuck": [NUMBER, NUMBER]}


def fits(pattern, text):
    found = re.fullmatch(pattern, text)
    return None if found is None else found.groups()


def plain_change(text):
    for word, parts in CHANGES.items():
        found = fits(" ".join([word] + parts), text)
        if found is not None:
            change = tuple(int(part) if kind == NUMBER else part for kind, part in zip(parts, found))
            if all(isinstance(part, str) or abs(part) <= 400 for part in change):
                return (word, *change)
    return None


def plain_row(text):
    """What deskrow_in must tell, by the words of the document; None where it's refused."""
    if "\n" in text:
        return None
    if text in ("undo", "names", "reckoned"):
        return (text,)
    if text.startswith(("put ", "would ")):
        word, rest = text.split(" ", 1)
        try:
            return (word, game_in("\n".join(rest.split(" / "))))
        except BadRow:
            return None
    found = fits(f"vary ({NAME}) (.*)", text)
    if found is not None:
        change = plain_change(found[1])
        return None if change is None else ("vary", found[0], change)
    found = fits(f"(drop|text|editions|known) ({NAME})", text)
    if found is not None:
        return found
    found = fits(f"(moves|worth|line|round|alike) ({NAME}) {SIDE_ROW}", text)
    if found is not None:
        return (found[0], found[1], (int(found[2]), found[3]))
    found = fits(f"within ({NAME}) {SIDE_ROW} {FIGURES}", text)
    if found is not None:
        return ("within", found[0], (int(found[1]), found[2]), int(found[3])) if int(found[3]) <= 40 else None
    found = re.fullmatch(f"mistakes ({NAME}) (.+)", text, re.DOTALL)
    if found is not None:
        return ("mistakes", found[1], "\n".join(found[2].split(" / ")))
    found = fits(f"again {FIGURES}", text)
    return ("again", int(found[0])) if found is not None and 1 <= int(found[0]) <= 400 else None


def random_row(dice):
    """A row that is right."""
    game = random_game(dice, 7, 4)
    name = "".join(dice.choice("abxz") for at in range(dice.randint(1, 8)))
    side, row = dice.choice([0, 1]), "".join(dice.choice(".abz") for at in range(dice.randint(2, 7)))
    way = dice.choice(["put", "would", "vary", "drop", "undo", "names", "text", "editions", "reckoned", "known", "moves", "worth",
                       "line", "round", "alike", "within", "mistakes", "again"])
    if way in ("put", "would"):
        return f"{way} " + game_text(game).replace("\n", " / ")
    if way == "vary":
        return f"{way} {name} " + " ".join(str(part) for part in random_change(dice, game))
    if way in ("undo", "names", "reckoned"):
        return way
    if way in ("drop", "text", "editions", "known"):
        return f"{way} {name}"
    if way == "again":
        return f"{way} {dice.randint(1, 400)}"
    if way == "mistakes":
        rows = [f"from {side} {row}"] + [f"{at} .a a." for at in range(dice.randint(0, 3))]
        return f"{way} {name} " + " / ".join(rows)
    return f"{way} {name} {side} {row}" + (f" {dice.randint(0, 40)}" if way == "within" else "")


def spoilt_row(dice, text):
    """The row with a word or a sign otherwise."""
    words = text.split(" ")
    at, sign = dice.randrange(len(words)), dice.randrange(len(text) + 1)
    way = dice.randrange(7)
    if way == 0:
        del words[at]
    elif way == 1:
        words.insert(at, words[at])
    elif way == 2:
        words[at] = ""
    elif way == 3:
        words[at] = dice.choice(["0", "1", "2", "-1", "00", "-0", "400", "401", "-400", "-401", "x", "Ab", "/", "rule", "shape",
                                 "+1",
                                 "abcdefghi", "x.x.x.x.", "\u0661", "40", "41", "undo", "again", "put", "mistakes"])
    elif way == 4:
        return text[:sign] + dice.choice(" /.ax01-\n~A") + text[sign:]
    elif way == 5:
        return text[:sign] + text[sign + 1:]
    else:
        words.append(dice.choice(["", "0", "x", "/"]))
    return " ".join(words)
