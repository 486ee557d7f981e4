"""Kinds of cups: each match a series of games, and seeds with names."""

from seedcup.checks import check_seed, check_seeds, is_integer_from
from seedcup.cup import Cup
from seedcup.errors import InvalidWins, UnknownName


class SeriesCup(Cup):
    """A cup in which each match is a series of games until one side has won so many."""

    def __init__(self, rounds, wins=2):
        # Not by super(): in a NamedSeriesCup both kinds share this base.
        Cup.__init__(self, rounds)
        if not is_integer_from(wins, 1):
            raise InvalidWins()
        self._wins = wins

    @property
    def least_games(self):
        """The least possible number of games in the whole cup."""
        matches = (1 << self._rounds) - 1
        return matches * self._wins

    @property
    def most_games(self):
        """The greatest possible number of games in the whole cup."""
        matches = (1 << self._rounds) - 1
        return matches * (2 * self._wins - 1)

    def told(self):
        """The list of what the cup holds, in words."""
        return super().told() + [f"series {self._wins}"]


class NamedCup(Cup):
    """A cup in which seeds have names."""

    def __init__(self, rounds, **names):
        Cup.__init__(self, rounds)
        self._name_seeds(names)

    def seed_of(self, name):
        """The seed of a name."""
        if not isinstance(name, str) or name not in self._seeds:
            raise UnknownName()
        return self._seeds[name]

    def name_of(self, seed):
        """The first name that was given for a seed, or None."""
        check_seed(self._rounds, seed)
        for name in self._seeds:
            if self._seeds[name] == seed:
                return name
        return None

    def told(self):
        """The list of what the cup holds, in words."""
        return super().told() + [f"names {len(self._seeds)}"]

    def _name_seeds(self, names):
        """Keep a dict of names and their seeds."""
        check_seeds(self._rounds, list(names.values()))
        self._seeds = {name: names[name] for name in names}


class NamedSeriesCup(NamedCup, SeriesCup):
    """A cup of both kinds."""

    def __init__(self, rounds, wins=2, **names):
        SeriesCup.__init__(self, rounds, wins)
        self._name_seeds(names)

    def told(self):
        """The list of what the cup holds, in words."""
        return super().told()
