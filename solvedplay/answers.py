"""What a desk tells of each sort of row. Each is asked with the book, the desk's most, and what stands behind the
row's first word."""

from solvedplay.ahead import within
from solvedplay.book import own_standing
from solvedplay.deskrows import PARTING
from solvedplay.gametext import game_text
from solvedplay.mistakes import mistakes
from solvedplay.moves import moves
from solvedplay.recordtext import record_in
from solvedplay.rounds import round_word
from solvedplay.turnings import least_alike
from solvedplay.words import NONE_WORD, far_word, move_word


def answer_put(book, most, parts):
    edition, many = book.put(parts[0])
    return f"{edition} {many}"


def answer_would(book, most, parts):
    edition, many = book.would(parts[0])
    return f"{edition} {many}"


def answer_vary(book, most, parts):
    edition, many = book.vary(parts[0], parts[1])
    return f"{edition} {many}"


def answer_drop(book, most, parts):
    book.drop(parts[0])
    return "done"


def answer_undo(book, most, parts):
    return "done" if book.undo() else "none"


def answer_names(book, most, parts):
    return words_or_none(book.names())


def answer_text(book, most, parts):
    return game_text(book.game(parts[0])).replace("\n", PARTING)


def answer_editions(book, most, parts):
    return str(book.editions(parts[0]))


def answer_reckoned(book, most, parts):
    return str(book.reckoned())


def answer_known(book, most, parts):
    return str(len(book.known(parts[0])))


def answer_moves(book, most, parts):
    game, standing = asked_of(book, parts)
    return words_or_none([move_word(move) for move in moves(game, standing)])


def answer_worth(book, most, parts):
    worth, far = book.worth(parts[0], parts[1], most=most)
    return f"{worth} {far_word(far)}"


def answer_line(book, most, parts):
    made, word = book.line(parts[0], parts[1], most=most)
    return " ".join([move_word(move) for move in made] + [word])


def answer_round(book, most, parts):
    game, standing = asked_of(book, parts)
    word = round_word(game, standing, most=most)
    return NONE_WORD if word == "" else word


def answer_alike(book, most, parts):
    game, standing = asked_of(book, parts)
    side, row = least_alike(game, standing)[0]
    return f"{side} {row}"


def answer_within(book, most, parts):
    game, standing = asked_of(book, parts)
    low, high = within(game, standing, parts[2])
    return f"{low} {high}"


def answer_mistakes(book, most, parts):
    game = book.game(parts[0])
    rows = mistakes(game, record_in(game, parts[1]), most=most)
    return words_or_none([f"{number}:{ahead}:{behind}" for number, ahead, behind, made in rows])


ANSWERS = {
    "put": answer_put,
    "would": answer_would,
    "vary": answer_vary,
    "drop": answer_drop,
    "undo": answer_undo,
    "names": answer_names,
    "text": answer_text,
    "editions": answer_editions,
    "reckoned": answer_reckoned,
    "known": answer_known,
    "moves": answer_moves,
    "worth": answer_worth,
    "line": answer_line,
    "round": answer_round,
    "alike": answer_alike,
    "within": answer_within,
    "mistakes": answer_mistakes,
}


def answer(book, most, row):
    """Does a row, as deskrow_in tells it, and tells its text."""
    action = ANSWERS[row[0]]
    return action(book, most, row[1:])


def asked_of(book, parts):
    """The pair of the game and the standing that a row asks of; NoGame, then NoStanding."""
    game = book.game(parts[0])
    return (game, own_standing(game, parts[1]))


def words_or_none(words):
    return NONE_WORD if words == [] else " ".join(words)
