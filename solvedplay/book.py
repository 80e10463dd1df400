"""A book that keeps games, their editions, and what is known of their standings."""

from solvedplay.errors import NoEdition, NoGame, NoStanding
from solvedplay.games import is_standing
from solvedplay.kinds import tupled
from solvedplay.leading import kept
from solvedplay.papers import paper
from solvedplay.playing import line
from solvedplay.reach import MOST, ways_from
from solvedplay.solving import ends_on, facts_by
from solvedplay.variants import varied


def own_standing(game, thing):
    """The standing that thing is; NoStanding where it's none of the game."""
    standing = tupled(thing)
    if not is_standing(game, standing):
        raise NoStanding(standing)
    return standing


class Book:
    """Games under their names. Of each name there's a page: the games of all its editions, and a dict of what is
    known, as facts_by tells it, for far of others may rest on lesser gains than the known worths. A page is replaced,
    never changed, for what may be undone and twins hold it, too."""

    def __init__(self):
        self.games = {}
        self.pages = {}
        self.past = []
        self.reckonings = 0

    def put(self, game):
        """The game stands under its name from now on; told is the pair (edition, kept)."""
        fresh = tupled(game)
        name = fresh[0]
        editions = self.page(name)[0]
        facts = self.staying(fresh)
        self.remember(name)
        self.games[name] = fresh
        self.pages[name] = ((*editions, fresh), facts)
        return (len(editions), len(facts))

    def vary(self, name, change):
        """The variant is put; told is what put tells."""
        return self.put(varied(self.game(name), change))

    def would(self, game):
        """What put would tell."""
        fresh = tupled(game)
        return (len(self.page(fresh[0])[0]), len(self.staying(fresh)))

    def drop(self, name):
        """The game is there no more, nor what's known of it; its editions are gone on in when it's put again."""
        self.game(name)
        self.remember(name)
        del self.games[name]
        self.pages[name] = (self.page(name)[0], {})

    def undo(self):
        """The last put, vary or drop that stands is as if it had never been: True; False where there's none."""
        if self.past == []:
            return False
        name, game, page = self.past.pop()
        self.pages[name] = page
        if game is None:
            del self.games[name]
        else:
            self.games[name] = game
        return True

    def worth(self, name, standing, *, most=MOST):
        """The pair (worth, far); all that are reached from the standing are known from now on."""
        game = self.game(name)
        start = own_standing(game, standing)
        ways = ways_from(game, [start], most)
        editions, facts = self.page(name)
        fresh = {one: ways[one] for one in ways if one not in facts}
        if fresh != {}:
            told = facts_by(ends_on(game, fresh), fresh, facts)
            facts = {one: facts[one] if one in facts else told[one] for one in [*facts, *told]}
            self.pages[name] = (editions, facts)
            self.reckonings += len(told)
        return facts[start][:2]

    def known(self, name):
        """The rising list of tuples (standing, worth, far) of what is known."""
        self.game(name)
        facts = self.page(name)[1]
        return sorted([(standing, *facts[standing][:2]) for standing in facts])

    def reckoned(self):
        """How many standings were reckoned, of all names."""
        return self.reckonings

    def names(self):
        """The rising list of the names under which games stand."""
        return sorted(self.games)

    def game(self, name):
        """The game that stands under the name; NoGame where there's none."""
        if name not in self.games:
            raise NoGame(name)
        return self.games[name]

    def editions(self, name):
        """How many editions there are."""
        self.game(name)
        return len(self.page(name)[0])

    def as_of(self, name, edition):
        """The game of that edition; NoEdition where there's none."""
        many = self.editions(name)
        if not 0 <= edition < many:
            raise NoEdition(edition)
        return self.page(name)[0][edition]

    def line(self, name, standing, *, most=MOST):
        """As line tells of that game."""
        game = self.game(name)
        return line(game, own_standing(game, standing), most=most)

    def paper(self, name, standing, *, most=MOST):
        """As paper tells of that game."""
        game = self.game(name)
        return paper(game, own_standing(game, standing), most=most)

    def twin(self):
        """One of its own that tells the same, and goes on alike."""
        other = Book()
        other.games = dict(self.games)
        other.pages = dict(self.pages)
        other.past = list(self.past)
        other.reckonings = self.reckonings
        return other

    def __len__(self):
        return len(self.games)

    def __eq__(self, other):
        return isinstance(other, Book) and self.games == other.games

    def page(self, name):
        """The pair of all editions of the name, and the dict of what is known of it."""
        return self.pages.get(name, ((), {}))

    def staying(self, game):
        """What is known of the game's name and stays so when it's put."""
        name = game[0]
        facts = self.page(name)[1]
        if name not in self.games or self.games[name][2:4] != game[2:4]:
            return {}
        # What is known is all that is reached from it, so there can't be too many.
        return {one: facts[one] for one in kept(self.games[name], game, list(facts), most=len(facts))}

    def remember(self, name):
        """What stands under the name can be had back by undo."""
        self.past.append((name, self.games.get(name), self.page(name)))
