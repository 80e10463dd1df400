"""Standings looked at ahead, within a number of moves."""

from solvedplay.games import GREATEST
from solvedplay.kinds import tupled
from solvedplay.moves import ended
from solvedplay.reach import ways_on


def within(game, standing, deep):
    """The pair (low, high) of what each side can bring about within deep moves."""
    return Ahead(game).ask(standing, deep)


def known_by(game, standing, deep):
    """The least number of moves, deep at most, within which low is high; None where there's none."""
    ahead = Ahead(game)
    for many in range(deep + 1):
        low, high = ahead.ask(standing, many)
        if low == high:
            return many
    return None


def chosen(side, worths):
    return max(worths) if side == 0 else min(worths)


class Ahead:
    """Looks ahead in one game, and keeps what it has opened."""

    def __init__(self, game):
        self.rules_of_play = tupled(game)
        self.steps = {}
        self.bounds = {}

    def ask(self, standing, deep):
        """The pair (low, high), as within tells it."""
        start = tupled(standing)
        pairs = self.to_be_opened(start, deep)
        # What is opened last has the least left, and is what the others rest on.
        for here, left in reversed(pairs):
            looked = [self.look(behind, left - 1) for behind in self.stepped(here)[1]]
            lows = [low for low, high in looked]
            highs = [high for low, high in looked]
            self.bounds[(here, left)] = (chosen(here[0], lows), chosen(here[0], highs))
        return self.look(start, deep)

    def opened(self):
        """How many pairs of a standing and what was left it has opened."""
        return len(self.bounds)

    def like(self):
        """One of its own that has opened the same."""
        other = Ahead(self.rules_of_play)
        other.bounds = {pair: self.bounds[pair] for pair in self.bounds}
        return other

    def __len__(self):
        return len(self.bounds)

    def stepped(self, standing):
        """The pair of what ended tells, and the standings behind the moves."""
        if standing not in self.steps:
            behinds = [behind for move, behind in ways_on(self.rules_of_play, standing)]
            self.steps[standing] = (ended(self.rules_of_play, standing), behinds)
        return self.steps[standing]

    def to_be_opened(self, start, deep):
        """The pairs of a standing and what is left that asking opens, those with more left first."""
        pairs = []
        looked = {start: True}
        left = deep
        while left > 0 and looked != {}:
            fresh = [standing for standing in looked if self.is_fresh(standing, left)]
            pairs += [(standing, left) for standing in fresh]
            looked = {behind: True for standing in fresh for behind in self.stepped(standing)[1]}
            left -= 1
        return pairs

    def is_fresh(self, standing, left):
        return self.stepped(standing)[0] is None and (standing, left) not in self.bounds

    def look(self, standing, left):
        """The pair (low, high) of a standing that is ended, has nothing left, or is opened."""
        worth = self.stepped(standing)[0]
        if worth is not None:
            return (worth, worth)
        return self.bounds.get((standing, left), (-GREATEST, GREATEST))
