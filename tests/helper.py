"""What several tests share: the document's rules, written out, and a check of errors."""

import unittest

from seedcup.errors import CupError

# Values that are never an integer, of the kinds that are likely to slip through.
NO_INTEGERS = (True, False, None, "1", "", [1], [], (1,), {1: 1}, b"\x01")

# Cups that are large, or at the edge of what a machine number holds.
LARGE_CUPS = (62, 63, 64, 65, 99, 100)


def bracket_by_rule(rounds):
    """The bracket, made by the rule of [4]."""
    seeds = [1]
    for _ in range(rounds):
        size = len(seeds)
        seeds = [new for seed in seeds for new in (seed, 2 * size + 1 - seed)]
    return seeds


def bracket_ends(rounds, count):
    """The first and the last seeds of the bracket, made by the rule of [4] at both ends only."""
    first, last = [1], [1]
    for done in range(rounds):
        total = 2 ** done
        first = [new for seed in first for new in (seed, 2 * total + 1 - seed)][:count]
        last = [new for seed in last for new in (seed, 2 * total + 1 - seed)][-count:]
    return first, last


def blocks_by_cutting(rounds, level):
    """The blocks of a level, cut out of the bracket as [5] says."""
    seeds = bracket_by_rule(rounds)
    size = 2 ** level
    return [seeds[start:start + size] for start in range(0, len(seeds), size)]


def other_half_by_cutting(seeds, place, stage):
    """The seeds of a bracket that the seed at a place may meet in round number stage."""
    size = 2 ** (stage - 1)
    start = place // size * size
    if start % (2 * size) == 0:
        return seeds[start + size:start + 2 * size]
    return seeds[start - size:start]


def triangular(seed):
    return seed * (seed - 1) // 2


def together_by_rule(rounds, level, first, second):
    """Whether two seeds share a block, by the rule of [6]."""
    return (triangular(first) - triangular(second)) % 2 ** (rounds - level) == 0


def least_level_by_rule(rounds, first, second):
    """The least level at which two seeds share a block, by the rule of [6]."""
    level = 0
    while not together_by_rule(rounds, level, first, second):
        level += 1
    return level


def seeds_of_interest(rounds):
    """Seeds at both ends of a cup, in its middle, and near powers of two."""
    most = 2 ** rounds
    near = {2 ** power + step for power in range(rounds + 1) for step in (-2, -1, 0, 1, 2)}
    near |= {most - 2 ** power + step for power in range(rounds) for step in (-1, 0, 1)}
    near |= {most // 3, most // 5, most // 7 + 1, most * 2 // 3}
    return sorted(seed for seed in near if 1 <= seed <= most)


def few_seeds_of_interest(rounds):
    """Some of these: few enough to take all pairs of them."""
    most = 2 ** rounds
    near = {1, 2, 3, 4, 5, most // 3, most // 2 - 1, most // 2, most // 2 + 1, most // 2 + 2}
    near |= {most // 4, most // 4 + 1, 3 * most // 4, 3 * most // 4 + 1}
    near |= {most - 3, most - 2, most - 1, most}
    return sorted(seed for seed in near if 1 <= seed <= most)


class CupTestCase(unittest.TestCase):
    """A test case that can ask for an error of exactly one class."""

    def assert_error(self, error_class, function, *args, **named):
        with self.assertRaises(ValueError) as caught:
            function(*args, **named)
        self.assertIs(error_class, caught.exception.__class__, (function.__name__, args, named))
        self.assertEqual(error_class.__mro__[1:3], (CupError, ValueError))
