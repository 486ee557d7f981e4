import unittest

from helper import (LARGE_CUPS, CupTestCase, blocks_by_cutting, bracket_by_rule,
                    few_seeds_of_interest, least_level_by_rule, together_by_rule)
from seedcup.blocks import place_of
from seedcup.errors import SameSeed
from seedcup.meetings import common_level, meeting_round, share_block

SMALL_CUPS = range(1, 7)
EDGE_CUPS = (1, 2) + LARGE_CUPS


def level_by_cutting(rounds, seeds):
    """The least level with a block that contains all seeds, found in the list."""
    for level in range(rounds + 1):
        for block in blocks_by_cutting(rounds, level):
            if all(seed in block for seed in seeds):
                return level
    return None


class TestExamples(unittest.TestCase):
    """The examples of section 5."""

    def test_meeting_round(self):
        self.assertEqual(meeting_round(3, 1, 5), 2)

    def test_common_level(self):
        self.assertEqual(common_level(3, 8, 4, 5), 2)

    def test_share_block(self):
        self.assertIs(share_block(3, 1, 4, 5), True)


class TestMeetingRound(CupTestCase):
    def test_all_pairs_of_small_cups(self):
        for rounds in SMALL_CUPS:
            seeds = bracket_by_rule(rounds)
            for i, first in enumerate(seeds):
                for j, second in enumerate(seeds):
                    if i != j:
                        level = 0
                        while i >> level != j >> level:
                            level += 1
                        self.assertEqual(meeting_round(rounds, first, second), level, (rounds, first, second))

    def test_equal_seeds(self):
        for rounds in SMALL_CUPS:
            for seed in range(1, 2 ** rounds + 1):
                self.assert_error(SameSeed, meeting_round, rounds, seed, seed)
        self.assert_error(SameSeed, meeting_round, 100, 2 ** 100, 2 ** 100)

    def test_large_cups(self):
        for rounds in EDGE_CUPS:
            seeds = few_seeds_of_interest(rounds)
            for first in seeds:
                for second in seeds:
                    if first != second:
                        expected = least_level_by_rule(rounds, first, second)
                        self.assertEqual(meeting_round(rounds, first, second), expected, (rounds, first, second))

    def test_large_cups_against_the_places(self):
        for rounds in EDGE_CUPS:
            seeds = few_seeds_of_interest(rounds)
            for first in seeds:
                for second in seeds:
                    if first != second:
                        # The halves of a block of 2 ** r places differ in bit r - 1.
                        expected = (place_of(rounds, first) ^ place_of(rounds, second)).bit_length()
                        self.assertEqual(meeting_round(rounds, first, second), expected, (rounds, first, second))

    def test_cup_of_hundred_rounds(self):
        self.assertEqual(meeting_round(100, 1, 2), 100)
        self.assertEqual(meeting_round(100, 1, 3), 100)
        self.assertEqual(meeting_round(100, 1, 4), 99)
        self.assertEqual(meeting_round(100, 1, 2 ** 100), 1)
        self.assertEqual(meeting_round(100, 2 ** 99, 2 ** 99 + 1), 1)
        self.assertEqual(meeting_round(100, 2 ** 100, 2 ** 100 - 1), 100)


class TestCommonLevel(unittest.TestCase):
    def test_one_seed(self):
        for rounds in SMALL_CUPS:
            for seed in range(1, 2 ** rounds + 1):
                self.assertEqual(common_level(rounds, seed), 0)
        self.assertEqual(common_level(100, 2 ** 100), 0)

    def test_equal_seeds(self):
        self.assertEqual(common_level(3, 5, 5), 0)
        self.assertEqual(common_level(3, 5, 5, 5, 5), 0)
        self.assertEqual(common_level(3, 5, 4, 5, 4), 1)
        self.assertEqual(common_level(100, 2 ** 100, 2 ** 100), 0)

    def test_two_seeds(self):
        for rounds in range(1, 5):
            for first in range(1, 2 ** rounds + 1):
                for second in range(1, 2 ** rounds + 1):
                    expected = level_by_cutting(rounds, (first, second))
                    self.assertEqual(common_level(rounds, first, second), expected, (rounds, first, second))

    def test_three_seeds(self):
        for rounds in range(1, 4):
            seeds = range(1, 2 ** rounds + 1)
            for three in [(a, b, c) for a in seeds for b in seeds for c in seeds]:
                self.assertEqual(common_level(rounds, *three), level_by_cutting(rounds, three), (rounds, three))

    def test_many_seeds(self):
        for rounds in SMALL_CUPS:
            for level in range(rounds + 1):
                for block in blocks_by_cutting(rounds, level):
                    self.assertEqual(common_level(rounds, *block[:41]), level_by_cutting(rounds, block[:41]))

    def test_large_cups(self):
        for rounds in EDGE_CUPS:
            seeds = few_seeds_of_interest(rounds)
            for count in range(1, len(seeds) + 1):
                for some in (seeds[:count], seeds[-count:], seeds[::count]):
                    expected = max(least_level_by_rule(rounds, some[0], seed) for seed in some)
                    self.assertEqual(common_level(rounds, *some), expected, (rounds, some))
                    self.assertEqual(common_level(rounds, *reversed(some)), expected, (rounds, some))

    def test_cup_of_hundred_rounds(self):
        self.assertEqual(common_level(100, 1, 2 ** 100), 1)
        self.assertEqual(common_level(100, 1, 2 ** 100, 2 ** 99), 2)
        self.assertEqual(common_level(100, 1, 2 ** 100, 2 ** 99, 2 ** 100 - 1), 100)


class TestShareBlock(unittest.TestCase):
    def test_no_seeds(self):
        for rounds in (1, 3, 100):
            for level in (0, 1, rounds):
                self.assertIs(share_block(rounds, level), True)

    def test_one_seed(self):
        for rounds in (1, 3, 100):
            for level in (0, 1, rounds):
                for seed in (1, 2, 2 ** rounds):
                    self.assertIs(share_block(rounds, level, seed), True)

    def test_two_seeds(self):
        for rounds in range(1, 6):
            for level in range(rounds + 1):
                for block in blocks_by_cutting(rounds, level):
                    for seed in range(1, 2 ** rounds + 1):
                        self.assertIs(share_block(rounds, level, block[0], seed), seed in block)
                        self.assertIs(share_block(rounds, level, seed, block[-1]), seed in block)

    def test_three_seeds(self):
        for rounds in range(1, 4):
            seeds = range(1, 2 ** rounds + 1)
            for three in [(a, b, c) for a in seeds for b in seeds for c in seeds]:
                least = level_by_cutting(rounds, three)
                for level in range(rounds + 1):
                    self.assertIs(share_block(rounds, level, *three), least <= level, (rounds, level, three))

    def test_equal_seeds(self):
        self.assertIs(share_block(3, 0, 5, 5, 5), True)
        self.assertIs(share_block(3, 0, 5, 5, 4), False)
        self.assertIs(share_block(3, 1, 5, 5, 4), True)

    def test_large_cups(self):
        for rounds in EDGE_CUPS:
            seeds = few_seeds_of_interest(rounds)
            for level in range(0, rounds + 1, 9):
                for first in seeds:
                    for second in seeds:
                        expected = together_by_rule(rounds, level, first, second)
                        self.assertIs(share_block(rounds, level, first, second), expected)

    def test_cup_of_hundred_rounds(self):
        self.assertIs(share_block(100, 1, 1, 2 ** 100), True)
        self.assertIs(share_block(100, 0, 1, 2 ** 100), False)
        self.assertIs(share_block(100, 99, 1, 2), False)
        self.assertIs(share_block(100, 100, 1, 2, 3, 2 ** 100), True)
        self.assertIs(share_block(100, 99, 2, 3, 2 ** 100 - 1), True)
        self.assertIs(share_block(100, 99, 2, 3, 2 ** 100), False)


class TestArguments(unittest.TestCase):
    """[1] and [2]: arguments by position and by name, and that they stay as they are."""

    def test_by_name(self):
        self.assertEqual(meeting_round(rounds=3, first=1, second=5), 2)
        self.assertEqual(meeting_round(second=5, first=1, rounds=3), 2)
        self.assertEqual(common_level(rounds=3, seed=8), 0)
        self.assertEqual(common_level(seed=8, rounds=3), 0)
        self.assertIs(share_block(rounds=3, level=1), True)
        self.assertIs(share_block(level=1, rounds=3), True)

    def test_by_position_and_name(self):
        self.assertEqual(meeting_round(3, 1, second=5), 2)
        self.assertEqual(common_level(3, seed=8), 0)
        self.assertIs(share_block(3, level=1), True)

    def test_as_many_seeds_as_the_document_allows(self):
        self.assertEqual(common_level(100, *([1] * 39 + [2 ** 100])), 1)
        self.assertIs(share_block(100, 0, *([1] * 40)), True)
        self.assertIs(share_block(100, 0, *([1] * 39 + [2 ** 100])), False)

    def test_a_list_of_seeds_stays_as_it_is(self):
        seeds = [4, 5, 5, 1]
        common_level(3, *seeds)
        share_block(3, 1, *seeds)
        self.assertEqual(seeds, [4, 5, 5, 1])


if __name__ == "__main__":
    unittest.main()
