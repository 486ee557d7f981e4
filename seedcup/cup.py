"""A cup that keeps claims while they come in."""

from seedcup.checks import check_claims, check_rounds, check_seed, is_claim
from seedcup.decisions import count_open, decided_besides, match_of
from seedcup.errors import NothingToUndo
from seedcup.expected import expected_winners, winner_in
from seedcup.halves import other_half
from seedcup.texts import parse_cup


class Cup:
    """The claims about a cup that were recorded so far; they are always consistent."""

    MOST_ROUNDS = 100

    def __init__(self, rounds):
        check_rounds(rounds)
        self._rounds = rounds
        self._claims = []
        self._decided = {}
        # For each call of `record` the number of its claims and the list of
        # the matches that were open before.
        self._calls = []

    def __len__(self):
        return len(self._claims)

    @classmethod
    def read(cls, text):
        """A cup of this class from its text."""
        rounds, claims = parse_cup(text)
        cup = cls(rounds)
        if claims:
            cup.record(*claims)
        return cup

    @staticmethod
    def fits(rounds, value):
        """Whether a value is a claim for a number of rounds."""
        check_rounds(rounds)
        return is_claim(rounds, value)

    @property
    def claimed(self):
        """The tuple of all recorded claims in order."""
        return tuple(self._claims)

    @property
    def free_now(self):
        """The number f such that 2 ** f results satisfy the recorded claims."""
        return count_open(self._rounds, self._decided)

    @property
    def favourite(self):
        """The winner of the cup in the expected result."""
        winners = expected_winners(self._rounds, self._decided)
        return winner_in(winners, self._rounds, 1)

    def record(self, *claims):
        """Record claims, all or none."""
        check_claims(self._rounds, claims)
        added = decided_besides(self._rounds, self._decided, claims)
        self._calls.append((len(claims), list(added)))
        self._claims.extend(claims)
        for played in added:
            self._decided[played] = added[played]

    def undo(self):
        """Remove the claims of the latest call of `record` that is not yet undone; returns their number."""
        if not self._calls:
            raise NothingToUndo()
        count, added = self._calls.pop()
        del self._claims[len(self._claims) - count:]
        for played in added:
            del self._decided[played]
        return count

    def journey(self, seed):
        """Yield the matches of a seed in the expected result as tuples (round, opponent, won)."""
        check_seed(self._rounds, seed)
        # Worked out once: all matches are those of one result, even if more
        # claims are recorded before the last one is asked for.
        winners = expected_winners(self._rounds, self._decided)
        for stage in range(1, self._rounds + 1):
            opponent = winner_in(winners, stage - 1, other_half(self._rounds, stage, seed))
            level, block = match_of(self._rounds, stage, seed)
            won = winner_in(winners, level, block) == seed
            yield stage, opponent, won
            if not won:
                return

    def told(self):
        """The list of what the cup holds, in words."""
        return [f"rounds {self._rounds}", f"claims {len(self._claims)}"]
