"""Draws: the seeds in the order of their places, standard or not.

A standard draw is the bracket with the halves of some blocks exchanged. Read
from its first seed, it writes the other halves of the blocks of level 1, 2, ...
around this seed, each in an order of its own.
"""

from seedcup.blocks import place_of
from seedcup.checks import check_draw, check_few_rounds, check_index
from seedcup.dealing import nth_dealt
from seedcup.errors import NotStandard
from seedcup.halves import other_half

MOST_ROUNDS_OF_A_DRAW = 7


def is_standard(draw):
    """Whether any two seeds of a draw meet in the same round as in the bracket."""
    return why_not_standard(draw) is None


def why_not_standard(draw):
    """The places (i, j) of two seeds that would meet in another round, the least j and for it the least i, or None."""
    check_draw(draw)
    rounds = _count_levels(draw)
    places = [place_of(rounds, seed) for seed in draw]
    for j in range(len(draw)):
        for i in range(j):
            if _common_level(i, j) != _common_level(places[i], places[j]):
                return i, j
    return None


def nth_draw(rounds, index):
    """The standard draw with an index in ascending order of lists."""
    check_few_rounds(rounds, MOST_ROUNDS_OF_A_DRAW)
    check_index(1 << _count_matches(rounds), index)
    return _nth_order(rounds, rounds, 1, index)


def rank_draw(draw):
    """The index of a standard draw."""
    if not is_standard(draw):
        raise NotStandard()
    return _rank_order(_count_levels(draw), draw)


def _count_levels(seeds):
    """The level of a block, by the list of its seeds."""
    return len(seeds).bit_length() - 1


def _common_level(first, second):
    """The least level of a block that contains two places."""
    return (first ^ second).bit_length()


def _count_matches(level):
    """How many matches a block has; the halves of each may be exchanged, so it is the bits of an index, too."""
    return (1 << level) - 1


def _nth_order(rounds, level, block, index):
    """The order with an index among those that a standard draw may give the seeds of a block."""
    # The highest bits tell the first seed of the block, and the others, part
    # by part, the orders of the halves behind it.
    bits = _count_matches(level) - level
    order = [nth_dealt(1 << (rounds - level), block, index >> bits)]
    for lower in range(level):
        bits = bits - _count_matches(lower)
        part = (index >> bits) & ((1 << _count_matches(lower)) - 1)
        order.extend(_nth_order(rounds, lower, other_half(rounds, lower + 1, order[0]), part))
    return order


def _rank_order(rounds, order):
    """The index of an order among those that a standard draw may give the seeds of this block."""
    level = _count_levels(order)
    index = (order[0] - 1) >> (rounds - level)
    for lower in range(level):
        half = order[1 << lower:2 << lower]
        index = (index << _count_matches(lower)) | _rank_order(rounds, half)
    return index
