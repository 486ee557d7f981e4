"""Checks of arguments that the modules share.

Each `check_` function raises the error of its parameter, or returns nothing.
A check that needs other arguments expects that they were checked before.
"""

from seedcup.errors import InvalidBlock, InvalidIndex, InvalidLevel, InvalidRounds, InvalidSeed

MOST_ROUNDS = 100


def is_integer(value):
    """Whether a value is an integer; True and False are none."""
    return isinstance(value, int) and not isinstance(value, bool)


def is_integer_between(value, low, high):
    """Whether a value is an integer from low to high."""
    return is_integer(value) and low <= value <= high


def check_rounds(rounds):
    if not is_integer_between(rounds, 1, MOST_ROUNDS):
        raise InvalidRounds()


def check_seed(rounds, seed):
    if not is_integer_between(seed, 1, 1 << rounds):
        raise InvalidSeed()


def check_seeds(rounds, seeds):
    for seed in seeds:
        check_seed(rounds, seed)


def check_level(rounds, level):
    if not is_integer_between(level, 0, rounds):
        raise InvalidLevel()


def check_block(rounds, level, block):
    if not is_integer_between(block, 1, 1 << (rounds - level)):
        raise InvalidBlock()


def check_index(size, index):
    if not is_integer_between(index, 0, size - 1):
        raise InvalidIndex()
