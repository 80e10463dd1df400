"""A book as the document tells it, slow and plain, and deeds to do at it. Nothing here reads the program but its
refusals."""

from solvedplay.errors import BadChange, NoEdition, NoGame, NoStanding, TooMany
from tests.oracle import all_standings, line_by, random_game, reach_of, solve, ways_of
from tests.plain_variants import kept_by, other_of, plain_varied, random_change

NAMES = ["a", "bb", "hop", "toy", "walk", "zzzzzzzz"]
REFUSALS = (BadChange, NoEdition, NoGame, NoStanding, TooMany)


class PlainBook:
    def __init__(self):
        # Of each name the game (None where there's none), all editions, and what is known.
        self.pages = {}
        self.ahead = []
        self.many = 0

    def page(self, name):
        return self.pages.get(name, (None, [], {}))

    def asked(self, name):
        if self.page(name)[0] is None:
            raise NoGame(name)
        return self.page(name)

    def replace(self, name, page):
        self.ahead.append((name, self.page(name)))
        self.pages[name] = page

    def staying(self, game):
        old, editions, known = self.page(game[0])
        if old is None or old[2:4] != game[2:4]:
            return {}
        return {one: known[one] for one in known if one in kept_by(old, game, [one])}

    def put(self, game):
        told = self.would(game)
        self.replace(game[0], (game, self.page(game[0])[1] + [game], self.staying(game)))
        return told

    def vary(self, name, change):
        other = plain_varied(self.asked(name)[0], change)
        if other is None:
            raise BadChange(change)
        return self.put(other)

    def would(self, game):
        return (len(self.page(game[0])[1]), len(self.staying(game)))

    def drop(self, name):
        self.replace(name, (None, self.asked(name)[1], {}))

    def undo(self):
        if not self.ahead:
            return False
        name, page = self.ahead.pop()
        self.pages[name] = page
        return True

    def found(self, name, standing, most):
        """All that are reached, where it isn't refused."""
        game = self.asked(name)[0]
        if standing not in all_standings(game):
            raise NoStanding(standing)
        if len(reach_of(game, [standing])) > most:
            raise TooMany(most)
        return reach_of(game, [standing])

    def worth(self, name, standing, *, most=400):
        found = self.found(name, standing, most)
        game, editions, known = self.page(name)
        told = solve(game, [standing])
        self.many += len([one for one in found if one not in known])
        self.pages[name] = (game, editions, {**told, **known})
        return told[standing]

    def line(self, name, standing, *, most=400):
        found = self.found(name, standing, most)
        game = self.page(name)[0]
        return line_by(ways_of(game, found), solve(game, [standing]), standing)

    def known(self, name):
        known = self.asked(name)[2]
        return [(one, *known[one]) for one in sorted(known)]

    def reckoned(self):
        return self.many

    def names(self):
        return sorted(name for name in self.pages if self.page(name)[0] is not None)

    def game(self, name):
        return self.asked(name)[0]

    def editions(self, name):
        return len(self.asked(name)[1])

    def as_of(self, name, edition):
        editions = self.asked(name)[1]
        if edition not in range(len(editions)):
            raise NoEdition(edition)
        return editions[edition]

    def __len__(self):
        return len(self.names())


def outcome(book, deed):
    """What a deed (method, arguments, names) tells, or which refusal with what, shown so that kinds count."""
    method, arguments, names = deed
    try:
        return repr(getattr(book, method)(*arguments, **names))
    except REFUSALS as refusal:
        return (type(refusal), repr(refusal.what))


def view(book):
    """All that a book tells of itself."""
    pages = {}
    for name in book.names():
        editions = book.editions(name)
        pages[name] = (book.game(name), [book.as_of(name, edition) for edition in range(editions)], book.known(name))
    return repr((len(book), book.names(), pages, book.reckoned()))


def games_of(dice, name):
    """Games of one name: variants of one, by little and by much, one of other beads, one of the beads otherwise written,
    one that is longer."""
    game = (name,) + random_game(dice, 3, 2)[1:]
    beads = game[2]
    found = [game, other_of(dice, game), other_of(dice, game), game[:2] + (beads[::-1],) + game[3:],
             game[:3] + (game[3] + 1,) + game[4:], (name,) + random_game(dice, 3, 2)[1:]]
    for number in range(12):
        other = plain_varied(game, random_change(dice, game))
        found += [other] if other is not None else []
    return found


def random_deed(dice, pool, book):
    """A deed, at a book as it is now; now and then one that is refused."""
    way = dice.choice(["put"] * 5 + ["vary"] * 6 + ["worth"] * 12 + ["undo"] * 3 + ["drop", "would", "line", "as_of", "other"])
    name = dice.choice(NAMES + book.names() * 3)
    game = book.game(name) if name in book.names() else dice.choice(pool[name])
    standing = dice.choice(all_standings(game) + [(0, "q"), (2, "..")])
    most = {"most": dice.choice([400, 400, 400, 3, 8])} if dice.random() < 0.7 else {}
    if way in ("put", "would"):
        return (way, (dice.choice(pool[name]),), {})
    if way == "vary":
        return (way, (name, random_change(dice, game)), {})
    if way in ("worth", "line"):
        return (way, (name, standing), most)
    if way == "as_of":
        return (way, (name, dice.randint(-2, 6)), {})
    if way == "undo":
        return (way, (), {})
    return ("drop" if way == "drop" else dice.choice(["known", "game", "editions"]), (name,), {})
