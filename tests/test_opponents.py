import unittest

from helper import (CupTestCase, bracket_by_rule, few_seeds_of_interest, least_level_by_rule,
                    other_half_by_cutting, seeds_of_interest)
from seedcup.opponents import expected_path, nth_opponent, opponents

SMALL_CUPS = range(1, 8)
EDGE_CUPS = (1, 2, 63, 64, 99, 100)


def small_cases():
    """All seeds and rounds of small brackets, with the opponents, cut out of the bracket."""
    for rounds in SMALL_CUPS:
        seeds = bracket_by_rule(rounds)
        for place, seed in enumerate(seeds):
            for stage in range(1, rounds + 1):
                yield rounds, seed, stage, sorted(other_half_by_cutting(seeds, place, stage))


def first_opponents(rounds, seed, stage, most):
    """The opponents among the best seeds, found by trying one seed after the other."""
    return [other for other in range(1, most + 1)
            if other != seed and least_level_by_rule(rounds, seed, other) == stage]


def last_opponents(rounds, seed, stage, most):
    """The opponents among the worst seeds, found by trying one seed after the other."""
    worst = 2 ** rounds
    return [other for other in range(worst - most + 1, worst + 1)
            if other != seed and least_level_by_rule(rounds, seed, other) == stage]


class TestExamples(unittest.TestCase):
    """The examples of section 6."""

    def test_nth_opponent(self):
        self.assertEqual(nth_opponent(3, 3, 2, 1), 7)

    def test_opponents(self):
        self.assertEqual(list(opponents(3, 3, 2)), [2, 7])

    def test_expected_path(self):
        self.assertEqual(expected_path(3, 3), [6, 2, 1])


class TestSmallCups(unittest.TestCase):
    """[11] on whole brackets."""

    def test_nth_opponent(self):
        for rounds, seed, stage, expected in small_cases():
            self.assertEqual(len(expected), 2 ** (stage - 1))
            found = [nth_opponent(rounds, seed, stage, index) for index in range(len(expected))]
            self.assertEqual(found, expected, (rounds, seed, stage))

    def test_opponents(self):
        for rounds, seed, stage, expected in small_cases():
            self.assertEqual(list(opponents(rounds, seed, stage)), expected, (rounds, seed, stage))

    def test_expected_path(self):
        for rounds in SMALL_CUPS:
            seeds = bracket_by_rule(rounds)
            for place, seed in enumerate(seeds):
                expected = [min(other_half_by_cutting(seeds, place, stage)) for stage in range(1, rounds + 1)]
                self.assertEqual(expected_path(rounds, seed), expected, (rounds, seed))

    def test_the_smallest_cup(self):
        self.assertEqual(list(opponents(1, 1, 1)), [2])
        self.assertEqual(list(opponents(1, 2, 1)), [1])
        self.assertEqual(expected_path(1, 2), [1])


class TestGenerators(unittest.TestCase):
    def test_two_at_the_same_time(self):
        pairs = list(zip(opponents(4, 1, 3), opponents(4, 2, 4)))
        self.assertEqual(pairs, [(4, 1), (5, 4), (12, 5), (13, 8)])

    def test_two_of_one_seed_go_on_their_own(self):
        ahead, behind = opponents(4, 2, 4), opponents(4, 2, 4)
        expected = [1, 4, 5, 8, 9, 12, 13, 16]
        self.assertEqual([next(ahead) for _ in range(5)], expected[:5])
        self.assertEqual([next(behind) for _ in range(2)], expected[:2])
        self.assertEqual(next(ahead), expected[5])
        self.assertEqual(list(behind), expected[2:])
        self.assertEqual(list(ahead), expected[6:])

    def test_one_ends(self):
        found = opponents(3, 1, 2)
        self.assertEqual(list(found), [4, 5])
        self.assertEqual(list(found), [])


class TestNewLists(unittest.TestCase):
    """[1]: a returned list belongs to the caller."""

    def test_expected_path(self):
        first = expected_path(3, 3)
        second = expected_path(3, 3)
        self.assertIsNot(first, second)
        first.append(9)
        first[0] = 0
        self.assertEqual(second, [6, 2, 1])
        self.assertEqual(expected_path(3, 3), [6, 2, 1])


class TestLargeCups(CupTestCase):
    """[11] on cups that are too large to be written down."""

    def test_all_opponents_of_the_first_rounds(self):
        for rounds in (63, 64, 100):
            for seed in few_seeds_of_interest(rounds):
                for stage in range(1, 6):
                    found = list(opponents(rounds, seed, stage))
                    self.check_opponents(rounds, seed, stage, found)
                    self.assertEqual(len(found), 2 ** (stage - 1))

    def check_opponents(self, rounds, seed, stage, found):
        # There are as many seeds with this meeting round as indexes, so they
        # are all, and in order, if they are different and ascend.
        self.assertEqual(found, sorted(set(found)), (rounds, seed, stage))
        for other in found:
            self.assertTrue(1 <= other <= 2 ** rounds, (rounds, seed, stage))
            self.assertEqual(least_level_by_rule(rounds, seed, other), stage, (rounds, seed, stage))

    def test_first_values_of_opponents_in_the_last_rounds(self):
        for rounds in (63, 64, 99, 100):
            for seed in few_seeds_of_interest(rounds):
                for stage in range(rounds - 3, rounds + 1):
                    expected = first_opponents(rounds, seed, stage, 100)[:4]
                    found = opponents(rounds, seed, stage)
                    self.assertEqual([next(found) for _ in expected], expected, (rounds, seed, stage))

    def test_first_and_last_indexes_in_the_last_rounds(self):
        for rounds in (63, 64, 99, 100):
            for seed in few_seeds_of_interest(rounds):
                for stage in range(rounds - 3, rounds + 1):
                    first = first_opponents(rounds, seed, stage, 50)
                    found = [nth_opponent(rounds, seed, stage, index) for index in range(len(first))]
                    self.assertEqual(found, first, (rounds, seed, stage))
                    last = last_opponents(rounds, seed, stage, 50)
                    indexes = range(2 ** (stage - 1) - len(last), 2 ** (stage - 1))
                    found = [nth_opponent(rounds, seed, stage, index) for index in indexes]
                    self.assertEqual(found, last, (rounds, seed, stage))

    def test_indexes_at_both_ends_of_every_round(self):
        for rounds in EDGE_CUPS:
            for seed in few_seeds_of_interest(rounds):
                for stage in range(1, rounds + 1):
                    size = 2 ** (stage - 1)
                    for index in {0, size // 2, size - 1}:
                        self.check_opponent(rounds, seed, stage, index)

    def check_opponent(self, rounds, seed, stage, index):
        # Each row of so many seeds holds one opponent: the one with its index.
        row = 2 ** (rounds - stage + 1)
        found = nth_opponent(rounds, seed, stage, index)
        told = (rounds, seed, stage, index)
        self.assertTrue(index * row < found <= (index + 1) * row, told)
        self.assertEqual(least_level_by_rule(rounds, seed, found), stage, told)

    def test_expected_path(self):
        for rounds in EDGE_CUPS:
            for seed in seeds_of_interest(rounds)[::3]:
                path = expected_path(rounds, seed)
                self.assertEqual(len(path), rounds)
                for stage, other in enumerate(path, 1):
                    # A best opponent is the best seed of one half of a block.
                    self.assertTrue(1 <= other <= 2 ** (rounds - stage + 1), (rounds, seed, stage))
                    self.assertEqual(least_level_by_rule(rounds, seed, other), stage, (rounds, seed, stage))

    def test_cup_of_hundred_rounds(self):
        self.assertEqual(nth_opponent(100, 1, 1, 0), 2 ** 100)
        self.assertEqual(nth_opponent(100, 2 ** 100, 100, 0), 2)
        self.assertEqual(nth_opponent(100, 2 ** 100, 100, 2 ** 99 - 1), 2 ** 100 - 1)
        self.assertEqual(nth_opponent(100, 2, 100, 2 ** 99 - 1), 2 ** 100)
        self.assertEqual(expected_path(100, 1), [2 ** power for power in range(100, 0, -1)])
        found = opponents(100, 1, 100)
        self.assertEqual([next(found) for _ in range(6)], [2, 3, 6, 7, 10, 11])


class TestArguments(unittest.TestCase):
    """[2]: arguments by position and by name."""

    def test_by_name(self):
        self.assertEqual(nth_opponent(rounds=3, seed=3, stage=2, index=1), 7)
        self.assertEqual(nth_opponent(index=1, stage=2, seed=3, rounds=3), 7)
        self.assertEqual(list(opponents(rounds=3, seed=3, stage=2)), [2, 7])
        self.assertEqual(list(opponents(stage=2, seed=3, rounds=3)), [2, 7])
        self.assertEqual(expected_path(rounds=3, seed=3), [6, 2, 1])
        self.assertEqual(expected_path(seed=3, rounds=3), [6, 2, 1])

    def test_by_position_and_name(self):
        self.assertEqual(nth_opponent(3, 3, index=1, stage=2), 7)
        self.assertEqual(list(opponents(3, 3, stage=2)), [2, 7])
        self.assertEqual(expected_path(3, seed=3), [6, 2, 1])

    def test_kinds_of_results(self):
        self.assertIs(nth_opponent(1, 1, 1, 0).__class__, int)
        self.assertIs(expected_path(1, 1).__class__, list)
        for value in list(opponents(2, 1, 2)) + expected_path(2, 1):
            self.assertIs(value.__class__, int)

    def test_calls_do_not_influence_each_other(self):
        for _ in range(2):
            self.assertEqual(nth_opponent(3, 3, 2, 1), 7)
            self.assertEqual(nth_opponent(4, 3, 2, 1), 11)
            self.assertEqual(expected_path(2, 3), [2, 1])


if __name__ == "__main__":
    unittest.main()
