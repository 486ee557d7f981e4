"""When seeds can meet, and which seeds share a block."""

from seedcup.checks import check_level, check_rounds, check_seed, check_seeds
from seedcup.errors import SameSeed


def meeting_round(rounds, first, second):
    """The round in which two different seeds can meet."""
    check_rounds(rounds)
    check_seed(rounds, first)
    check_seed(rounds, second)
    if first == second:
        raise SameSeed()
    return _least_level(rounds, (first, second))


def common_level(rounds, seed, *more):
    """The least level of a block that contains all given seeds."""
    check_rounds(rounds)
    check_seed(rounds, seed)
    check_seeds(rounds, more)
    return _least_level(rounds, (seed, *more))


def share_block(rounds, level, *seeds):
    """Whether all given seeds are in the same block of a level."""
    check_rounds(rounds)
    check_level(rounds, level)
    check_seeds(rounds, seeds)
    return _least_level(rounds, seeds) <= level


def _least_level(rounds, seeds):
    """The least level of a block that contains all seeds; 0 for none."""
    differing = 0
    for seed in seeds:
        differing = differing | (_triangular(seed) ^ _triangular(seeds[0]))
    if differing == 0:
        return 0
    # Two numbers are equal modulo a power of two as far as their lowest bits
    # are the same: below the lowest bit in which any two of them differ.
    same_bits = (differing & -differing).bit_length() - 1
    return rounds - same_bits


def _triangular(seed):
    return seed * (seed - 1) // 2
