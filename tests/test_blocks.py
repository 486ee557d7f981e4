import unittest

from helper import (LARGE_CUPS, CupTestCase, blocks_by_cutting, bracket_by_rule, bracket_ends,
                    few_seeds_of_interest, seeds_of_interest, together_by_rule)
from seedcup.blocks import block_of, bracket, member_index, nth_member, place_of, seed_at

SMALL_CUPS = range(1, 10)
EDGE_CUPS = (1, 2, 63, 64, 99, 100)


def place_by_rule(rounds, seed):
    """The place of a seed, by going back one round at a time by the rule of [4]."""
    if rounds == 0:
        return 0
    m = 2 ** (rounds - 1)
    if seed <= m:
        return 2 * place_by_rule(rounds - 1, seed)
    return 2 * place_by_rule(rounds - 1, 2 * m + 1 - seed) + 1


class TestExamples(unittest.TestCase):
    """The examples of section 4."""

    def test_seed_at(self):
        self.assertEqual(seed_at(3, 5), 7)

    def test_place_of(self):
        self.assertEqual(place_of(3, 7), 5)

    def test_bracket(self):
        self.assertEqual(list(bracket(3)), [1, 8, 4, 5, 2, 7, 3, 6])

    def test_block_of(self):
        self.assertEqual(block_of(3, 2, 5), 1)

    def test_nth_member(self):
        self.assertEqual(nth_member(3, 2, 1, 2), 5)

    def test_member_index(self):
        self.assertEqual(member_index(3, 2, 5), 2)


class TestSmallBrackets(unittest.TestCase):
    """[4] and [8] on whole brackets."""

    def test_bracket(self):
        for rounds in SMALL_CUPS:
            self.assertEqual(list(bracket(rounds)), bracket_by_rule(rounds))

    def test_seed_at_every_place(self):
        for rounds in SMALL_CUPS:
            seeds = bracket_by_rule(rounds)
            self.assertEqual([seed_at(rounds, place) for place in range(len(seeds))], seeds)

    def test_place_of_every_seed(self):
        for rounds in SMALL_CUPS:
            seeds = bracket_by_rule(rounds)
            for place, seed in enumerate(seeds):
                self.assertEqual(place_of(rounds, seed), place, (rounds, seed))

    def test_they_undo_each_other(self):
        for rounds in SMALL_CUPS:
            for number in range(2 ** rounds):
                self.assertEqual(place_of(rounds, seed_at(rounds, number)), number)
                self.assertEqual(seed_at(rounds, place_of(rounds, number + 1)), number + 1)

    def test_two_brackets_at_the_same_time(self):
        first, second = bracket(3), bracket(4)
        pairs = list(zip(first, second))
        self.assertEqual(pairs, list(zip(bracket_by_rule(3), bracket_by_rule(4))))

    def test_two_brackets_of_one_cup_go_on_their_own(self):
        ahead, behind = bracket(4), bracket(4)
        seeds = bracket_by_rule(4)
        self.assertEqual([next(ahead) for _ in range(5)], seeds[:5])
        self.assertEqual([next(behind) for _ in range(2)], seeds[:2])
        self.assertEqual(next(ahead), seeds[5])
        self.assertEqual(list(behind), seeds[2:])
        self.assertEqual(list(ahead), seeds[6:])

    def test_a_bracket_ends(self):
        for rounds in (1, 5):
            seeds = bracket(rounds)
            self.assertEqual(len(list(seeds)), 2 ** rounds)
            self.assertEqual(list(seeds), [])


class TestLargeBrackets(unittest.TestCase):
    """[4] and [8] on brackets that are too large to be written down."""

    def test_first_values_of_bracket(self):
        for rounds in LARGE_CUPS:
            expected, _ = bracket_ends(rounds, 40)
            seeds = bracket(rounds)
            self.assertEqual([next(seeds) for _ in range(40)], expected)

    def test_places_at_both_ends(self):
        for rounds in EDGE_CUPS:
            first, last = bracket_ends(rounds, 20)
            places = list(range(len(first)))
            places += [2 ** rounds - len(last) + number for number in range(len(last))]
            for place, seed in zip(places, first + last):
                self.assertEqual(seed_at(rounds, place), seed, (rounds, place))
                self.assertEqual(place_of(rounds, seed), place, (rounds, seed))

    def test_best_and_worst_seed(self):
        for rounds in EDGE_CUPS:
            self.assertEqual(place_of(rounds, 1), 0)
            self.assertEqual(place_of(rounds, 2 ** rounds), 1)
            self.assertEqual(place_of(rounds, 2), 2 ** (rounds - 1))
            self.assertEqual(seed_at(rounds, 0), 1)
            self.assertEqual(seed_at(rounds, 1), 2 ** rounds)
            self.assertEqual(seed_at(rounds, 2 ** (rounds - 1)), 2)

    def test_seeds_and_places_near_powers_of_two(self):
        for rounds in EDGE_CUPS:
            for seed in seeds_of_interest(rounds):
                place = place_by_rule(rounds, seed)
                self.assertEqual(place_of(rounds, seed), place, (rounds, seed))
                self.assertEqual(seed_at(rounds, place), seed, (rounds, place))
                self.assertEqual(place_by_rule(rounds, seed_at(rounds, seed - 1)), seed - 1)

    def test_first_opponents_stand_side_by_side(self):
        for rounds in EDGE_CUPS:
            for seed in seeds_of_interest(rounds):
                opponent = 2 ** rounds + 1 - seed
                self.assertEqual(place_of(rounds, seed) ^ 1, place_of(rounds, opponent))


class TestSmallBlocks(unittest.TestCase):
    """[5] and [9] on all blocks of small brackets."""

    def test_block_of(self):
        for rounds in SMALL_CUPS:
            for level in range(rounds + 1):
                for seeds in blocks_by_cutting(rounds, level):
                    for seed in seeds:
                        self.assertEqual(block_of(rounds, level, seed), min(seeds), (rounds, level, seed))

    def test_block_numbers(self):
        for rounds in SMALL_CUPS:
            for level in range(rounds + 1):
                numbers = {block_of(rounds, level, seed) for seed in range(1, 2 ** rounds + 1)}
                self.assertEqual(sorted(numbers), list(range(1, 2 ** (rounds - level) + 1)))

    def test_nth_member(self):
        for rounds in SMALL_CUPS:
            for level in range(rounds + 1):
                for seeds in blocks_by_cutting(rounds, level):
                    members = [nth_member(rounds, level, min(seeds), index) for index in range(2 ** level)]
                    self.assertEqual(members, sorted(seeds), (rounds, level))

    def test_member_index(self):
        for rounds in SMALL_CUPS:
            for level in range(rounds + 1):
                for seeds in blocks_by_cutting(rounds, level):
                    for index, seed in enumerate(sorted(seeds)):
                        self.assertEqual(member_index(rounds, level, seed), index, (rounds, level, seed))


class TestLargeBlocks(unittest.TestCase):
    """[6] and [9] on cups of which only some seeds can be looked at."""

    def test_level_zero(self):
        for rounds in EDGE_CUPS:
            for seed in seeds_of_interest(rounds):
                self.assertEqual(block_of(rounds, 0, seed), seed)
                self.assertEqual(nth_member(rounds, 0, seed, 0), seed)
                self.assertEqual(member_index(rounds, 0, seed), 0)

    def test_level_of_the_whole_cup(self):
        for rounds in EDGE_CUPS:
            for seed in seeds_of_interest(rounds):
                self.assertEqual(block_of(rounds, rounds, seed), 1)
                self.assertEqual(nth_member(rounds, rounds, 1, seed - 1), seed)
                self.assertEqual(member_index(rounds, rounds, seed), seed - 1)

    def test_block_of_is_the_best_seed_of_the_block(self):
        for rounds in EDGE_CUPS:
            for level in range(rounds + 1):
                blocks = 2 ** (rounds - level)
                for seed in few_seeds_of_interest(rounds):
                    block = block_of(rounds, level, seed)
                    self.assertTrue(1 <= block <= blocks, (rounds, level, seed))
                    self.assertTrue(together_by_rule(rounds, level, block, seed), (rounds, level, seed))
                    self.assertIn(seed % (2 * blocks), (block % (2 * blocks), (1 - block) % (2 * blocks)))

    def test_members_are_those_of_the_rule_in_ascending_order(self):
        for rounds in EDGE_CUPS:
            for level in range(rounds + 1):
                row = 2 ** (rounds - level)
                for block in sorted({1, row // 3 + 1, row // 2 + 1, row}):
                    for index in sorted({0, 1, 2, 3, 2 ** level // 2, 2 ** level - 2, 2 ** level - 1}):
                        if 0 <= index < 2 ** level:
                            self.check_member(rounds, level, block, index)

    def check_member(self, rounds, level, block, index):
        # A row of as many seeds as the level has blocks holds one of each
        # block, so the member with this index is the one within this row.
        row = 2 ** (rounds - level)
        seed = nth_member(rounds, level, block, index)
        told = (rounds, level, block, index)
        self.assertTrue(index * row < seed <= (index + 1) * row, told)
        self.assertTrue(together_by_rule(rounds, level, block, seed), told)
        self.assertEqual(member_index(rounds, level, seed), index, told)
        self.assertEqual(block_of(rounds, level, seed), block, told)

    def test_member_index_leads_back(self):
        for rounds in EDGE_CUPS:
            for level in range(rounds + 1):
                for seed in few_seeds_of_interest(rounds):
                    block = block_of(rounds, level, seed)
                    index = member_index(rounds, level, seed)
                    self.assertEqual(nth_member(rounds, level, block, index), seed)

    def test_blocks_of_a_cup_of_hundred_rounds(self):
        self.assertEqual(block_of(100, 1, 2 ** 100), 1)
        self.assertEqual(block_of(100, 1, 2 ** 99 + 1), 2 ** 99)
        self.assertEqual(nth_member(100, 1, 1, 1), 2 ** 100)
        self.assertEqual(nth_member(100, 1, 2 ** 99, 1), 2 ** 99 + 1)
        self.assertEqual(nth_member(100, 99, 1, 2 ** 99 - 1), 2 ** 100)
        self.assertEqual(nth_member(100, 99, 2, 2 ** 99 - 1), 2 ** 100 - 1)


class TestArguments(CupTestCase):
    """[2]: arguments by position and by name."""

    def test_by_name(self):
        self.assertEqual(seed_at(rounds=3, place=5), 7)
        self.assertEqual(seed_at(place=5, rounds=3), 7)
        self.assertEqual(place_of(rounds=3, seed=7), 5)
        self.assertEqual(place_of(seed=7, rounds=3), 5)
        self.assertEqual(list(bracket(rounds=2)), [1, 4, 2, 3])
        self.assertEqual(block_of(rounds=3, level=2, seed=5), 1)
        self.assertEqual(block_of(seed=5, level=2, rounds=3), 1)
        self.assertEqual(nth_member(rounds=3, level=2, block=1, index=2), 5)
        self.assertEqual(nth_member(index=2, block=1, level=2, rounds=3), 5)
        self.assertEqual(member_index(rounds=3, level=2, seed=5), 2)
        self.assertEqual(member_index(seed=5, level=2, rounds=3), 2)

    def test_by_position_and_name(self):
        self.assertEqual(seed_at(3, place=5), 7)
        self.assertEqual(place_of(3, seed=7), 5)
        self.assertEqual(block_of(3, 2, seed=5), 1)
        self.assertEqual(nth_member(3, 2, block=1, index=2), 5)
        self.assertEqual(member_index(3, level=2, seed=5), 2)

    def test_results_are_integers(self):
        results = [seed_at(1, 0), place_of(1, 1), block_of(1, 0, 1), nth_member(1, 0, 1, 0), member_index(1, 0, 1)]
        results += [seed_at(1, 1), place_of(1, 2), block_of(1, 1, 2), nth_member(1, 1, 1, 1), member_index(1, 1, 2)]
        results += list(bracket(1))
        for result in results:
            self.assertIs(result.__class__, int)

    def test_calls_do_not_influence_each_other(self):
        for _ in range(2):
            self.assertEqual(seed_at(3, 5), 7)
            self.assertEqual(seed_at(4, 5), 13)
            self.assertEqual(block_of(3, 2, 5), 1)
            self.assertEqual(block_of(4, 2, 5), 4)


if __name__ == "__main__":
    unittest.main()
