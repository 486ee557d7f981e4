"""The bracket and its blocks: which seed stands where.

The seeds are dealt to the blocks of a level forwards, then backwards, and so
on: the members of block j are the seeds that are j or 1 - j modulo 2 * M,
where M is the number of blocks.
"""

from seedcup.checks import check_block, check_index, check_level, check_rounds, check_seed
from seedcup.dealing import group_of, nth_dealt


def seed_at(rounds, place):
    """The seed at a place of the bracket."""
    check_rounds(rounds)
    check_index(1 << rounds, place)
    seed = 1
    for done in range(1, rounds + 1):
        # The bits of a place, the highest first, tell for each round that is
        # added whether the first or the second of the two new seeds is meant.
        if (place >> (rounds - done)) & 1 == 1:
            seed = (1 << done) + 1 - seed
    return seed


def place_of(rounds, seed):
    """The place of a seed in the bracket."""
    check_rounds(rounds)
    check_seed(rounds, seed)
    place = 0
    for level in range(rounds):
        half = 1 << (rounds - 1 - level)
        # Back to the cup with a round less: a seed of the worse half stands
        # behind its first opponent, whose place there goes on for both.
        if seed > half:
            place = place + (1 << level)
            seed = 2 * half + 1 - seed
    return place


def bracket(rounds):
    """Yield the seeds in the order of their places."""
    check_rounds(rounds)
    for place in range(1 << rounds):
        yield seed_at(rounds, place)


def block_of(rounds, level, seed):
    """The number of the block of a level that contains a seed."""
    check_rounds(rounds)
    check_level(rounds, level)
    check_seed(rounds, seed)
    return group_of(1 << (rounds - level), seed)


def nth_member(rounds, level, block, index):
    """The seed with an index among the seeds of a block in ascending order."""
    check_rounds(rounds)
    check_level(rounds, level)
    check_block(rounds, level, block)
    check_index(1 << level, index)
    return nth_dealt(1 << (rounds - level), block, index)


def member_index(rounds, level, seed):
    """The index of a seed in its block of a level."""
    check_rounds(rounds)
    check_level(rounds, level)
    check_seed(rounds, seed)
    return (seed - 1) // (1 << (rounds - level))
