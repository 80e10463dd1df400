"""Records explained, a text for each move."""

from solvedplay.playing import judged_on
from solvedplay.reach import MOST
from solvedplay.records import looked_over, told_of
from solvedplay.words import far_word, move_word


def explained(game, record, *, most=MOST):
    """The list of a text for each move: its number, its side, the move, and what told_moves tells of it."""
    standings, made, ways, told = looked_over(game, record, most)
    texts = []
    for number, move in enumerate(made):
        here = standings[number]
        word, worth, far = told_of(judged_on(ways, told, here), move)
        text = f"{number} {here[0]} {move_word(move)} {word} {worth} {far_word(far)}"
        texts.append(f"{text} gives {abs(told[here][0] - worth)}" if word == "mistake" else text)
    return texts
