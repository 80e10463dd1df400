"""What a desk tells of each sort of row. Each is asked with the book, the desk's most, and what stands behind the
row's first word."""

from solvedplay.ahead import within
from solvedplay.book import own_standing
from solvedplay.deskrows import PARTING
from solvedplay.gametext import game_text
from solvedplay.mistakes import mistakes
from solvedplay.moves import moves
from solvedplay.recordtext import record_in
from solvedplay.rounds import round_word
from solvedplay.turnings import least_alike
from solvedplay.words import NONE_WORD, far_word, move_word


def told_put(book, most, parts):
    edition, many = book.put(parts[0])
    return f"{edition} {many}"


def told_would(book, most, parts):
    edition, many = book.would(parts[0])
    return f"{edition} {many}"


def told_vary(book, most, parts):
    edition, many = book.vary(parts[0], parts[1])
    return f"{edition} {many}"


def told_drop(book, most, parts):
    book.drop(parts[0])
    return "done"


def told_undo(book, most, parts):
    return "done" if book.undo() else "none"


def told_names(book, most, parts):
    return words_or_none(book.names())


def told_text(book, most, parts):
    return game_text(book.game(parts[0])).replace("\n", PARTING)


def told_editions(book, most, parts):
    return str(book.editions(parts[0]))


def told_reckoned(book, most, parts):
    return str(book.reckoned())


def told_known(book, most, parts):
    return str(len(book.known(parts[0])))


def told_moves(book, most, parts):
    game, standing = asked_of(book, parts)
    return words_or_none([move_word(move) for move in moves(game, standing)])


def told_worth(book, most, parts):
    worth, far = book.worth(parts[0], parts[1], most=most)
    return f"{worth} {far_word(far)}"


def told_line(book, most, parts):
    made, word = book.line(parts[0], parts[1], most=most)
    return " ".join([move_word(move) for move in made] + [word])


def told_round(book, most, parts):
    game, standing = asked_of(book, parts)
    word = round_word(game, standing, most=most)
    return NONE_WORD if word == "" else word


def told_alike(book, most, parts):
    game, standing = asked_of(book, parts)
    side, row = least_alike(game, standing)[0]
    return f"{side} {row}"


def told_within(book, most, parts):
    game, standing = asked_of(book, parts)
    low, high = within(game, standing, parts[2])
    return f"{low} {high}"


def told_mistakes(book, most, parts):
    game = book.game(parts[0])
    rows = mistakes(game, record_in(game, parts[1]), most=most)
    return words_or_none([f"{number}:{ahead}:{behind}" for number, ahead, behind, made in rows])


ANSWERS = {
    "put": told_put,
    "would": told_would,
    "vary": told_vary,
    "drop": told_drop,
    "undo": told_undo,
    "names": told_names,
    "text": told_text,
    "editions": told_editions,
    "reckoned": told_reckoned,
    "known": told_known,
    "moves": told_moves,
    "worth": told_worth,
    "line": told_line,
    "round": told_round,
    "alike": told_alike,
    "within": told_within,
    "mistakes": told_mistakes,
}


def answer(book, most, row):
    """Does a row, as deskrow_in tells it, and tells its text."""
    action = ANSWERS[row[0]]
    return action(book, most, row[1:])


def asked_of(book, parts):
    """The pair of the game and the standing that a row asks of; NoGame, then NoStanding."""
    game = book.game(parts[0])
    return (game, own_standing(game, parts[1]))


def words_or_none(words):
    return NONE_WORD if words == [] else " ".join(words)
