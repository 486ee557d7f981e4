"""The expected result of claims: each open match is won by the better one of its two players.

Where nothing is decided in a block, its best seed wins it, and that is its
number. So only the blocks that contain a decided match are worked out.
The functions expect that their arguments were checked before.
"""

from seedcup.decisions import touched_blocks
from seedcup.halves import halves_of


def expected_winners(rounds, decided):
    """A dict of the blocks (level, block) that contain a decided match, with the seeds that win them."""
    winners = {}
    for level, block in touched_blocks(rounds, decided):
        if (level, block) in decided:
            winners[(level, block)] = winner_in(winners, level - 1, decided[(level, block)])
        else:
            winners[(level, block)] = min(players_in(rounds, winners, level, block))
    return winners


def winner_in(winners, level, block):
    """The winner of any block, by the dict of winners."""
    return winners.get((level, block), block)


def players_in(rounds, winners, level, block):
    """The two players of the match of a block, by the dict of winners."""
    better, worse = halves_of(rounds, level, block)
    return winner_in(winners, level - 1, better), winner_in(winners, level - 1, worse)
