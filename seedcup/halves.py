"""The two halves of a block, whose winners play against each other.

The functions expect that their arguments were checked before.
"""

from seedcup.dealing import group_of


def count_halves(rounds, stage):
    """How many halves there are in all blocks whose match is in round number stage."""
    return 1 << (rounds - stage + 1)


def own_half(rounds, stage, seed):
    """The number of the half, in its block of level stage, that contains a seed."""
    return group_of(count_halves(rounds, stage), seed)


def other_half(rounds, stage, seed):
    """The number of the half, in its block of level stage, that does not contain a seed."""
    return _beside(rounds, stage, own_half(rounds, stage, seed))


def halves_of(rounds, stage, block):
    """The numbers of the two halves of a block of level stage, the better half first."""
    # The best seed of a block is also the best one of its better half.
    return block, _beside(rounds, stage, block)


def _beside(rounds, stage, half):
    """The number of the half that stands beside a half in its block of level stage."""
    # The rule of the bracket puts s and 2 * m + 1 - s in the place of seed s;
    # the same holds for the best seeds of the two halves of block s.
    return count_halves(rounds, stage) + 1 - half
