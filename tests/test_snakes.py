import itertools
import unittest

from helper import CupTestCase
from seedcup.snakes import group_sum, nth_in_group, refines, snake_group

SMALL_DRAWS = range(1, 13)
FAR = 10 ** 39 + 3
FARTHEST = 10 ** 40 - 1
FAR_NUMBERS = (FAR, FAR + 1, FARTHEST - 1, FARTHEST)


def deal(groups, rows):
    """A draw, dealt one seed after the other: for each group the list of its seeds."""
    dealt = [[] for _ in range(groups)]
    seed = 0
    for row in range(rows):
        order = range(groups) if row % 2 == 0 else reversed(range(groups))
        for at in order:
            seed += 1
            dealt[at].append(seed)
    return dealt


def in_group_by_remainder(groups, group, seed):
    """Whether a seed is in a group: the seeds that are j or 1 - j modulo twice the groups."""
    return (seed - group) % (2 * groups) == 0 or (seed - 1 + group) % (2 * groups) == 0


def groups_at_both_ends(groups):
    return sorted({1, min(2, groups), groups // 2 + 1, max(1, groups - 1), groups})


class TestExamples(unittest.TestCase):
    """The examples of section 7."""

    def test_snake_group(self):
        self.assertEqual(snake_group(3, 4), 3)

    def test_nth_in_group(self):
        self.assertEqual(nth_in_group(3, 1, 2), 7)

    def test_group_sum(self):
        self.assertEqual(group_sum(3, 1, 3), 14)

    def test_refines(self):
        self.assertIs(refines(4, 2), True)


class TestSmallDraws(unittest.TestCase):
    """[12] against draws that are dealt here."""

    def test_snake_group(self):
        for groups in SMALL_DRAWS:
            for group, seeds in enumerate(deal(groups, 9), 1):
                for seed in seeds:
                    self.assertEqual(snake_group(groups, seed), group, (groups, seed))

    def test_nth_in_group(self):
        for groups in SMALL_DRAWS:
            for group, seeds in enumerate(deal(groups, 9), 1):
                found = [nth_in_group(groups, group, index) for index in range(len(seeds))]
                self.assertEqual(found, seeds, (groups, group))

    def test_group_sum(self):
        for groups in SMALL_DRAWS:
            for group, seeds in enumerate(deal(groups, 9), 1):
                for count in range(len(seeds) + 1):
                    self.assertEqual(group_sum(groups, group, count), sum(seeds[:count]), (groups, group, count))

    def test_sum_of_no_seeds(self):
        for groups in SMALL_DRAWS:
            for group in range(1, groups + 1):
                self.assertEqual(group_sum(groups, group, 0), 0)

    def test_one_group(self):
        for seed in range(1, 20):
            self.assertEqual(snake_group(1, seed), 1)
            self.assertEqual(nth_in_group(1, 1, seed - 1), seed)
            self.assertEqual(group_sum(1, 1, seed), seed * (seed + 1) // 2)


class TestRefines(unittest.TestCase):
    def test_small_numbers_of_groups(self):
        for groups in SMALL_DRAWS:
            for other in SMALL_DRAWS:
                # After 2 * groups * other seeds both draws begin again.
                other_groups = {}
                for group, seeds in enumerate(deal(other, 2 * groups), 1):
                    other_groups.update({seed: group for seed in seeds})
                expected = all(len({other_groups[seed] for seed in seeds}) == 1 for seeds in deal(groups, 2 * other))
                self.assertIs(refines(groups, other), expected, (groups, other))

    def test_every_draw_refines_itself_and_one_group(self):
        for groups in (1, 2, 3, 12, FAR, FARTHEST):
            self.assertIs(refines(groups, groups), True)
            self.assertIs(refines(groups, 1), True)

    def test_one_group_refines_only_itself(self):
        self.assertIs(refines(1, 1), True)
        for other in (2, 3, 12, FAR, FARTHEST):
            self.assertIs(refines(1, other), False)

    def test_large_numbers_of_groups(self):
        self.assertIs(refines(10 ** 39, 10 ** 19), True)
        self.assertIs(refines(10 ** 39, 10 ** 19 + 1), False)
        self.assertIs(refines(10 ** 19, 10 ** 39), False)
        self.assertIs(refines(10 ** 39, 2 ** 39), True)
        self.assertIs(refines(10 ** 39, 2 ** 40), False)
        self.assertIs(refines(FARTHEST, 3), True)
        self.assertIs(refines(FARTHEST, 2), False)


class TestLargeNumbers(unittest.TestCase):
    """[12] with numbers of 40 digits, which no draw can be dealt for."""

    def test_snake_group(self):
        for groups in (1, 2, 3, 7, 12, 10 ** 20, FAR, FARTHEST):
            for seed in FAR_NUMBERS + (1, 2, 10 ** 20, 3 * 10 ** 20 + 5, 2 * FAR, 2 * FAR + 1):
                group = snake_group(groups, seed)
                self.assertTrue(1 <= group <= groups, (groups, seed))
                self.assertTrue(in_group_by_remainder(groups, group, seed), (groups, seed))

    def test_nth_in_group(self):
        for groups in (1, 2, 3, 7, 12, 10 ** 20, FAR, FARTHEST):
            for group in groups_at_both_ends(groups):
                for index in FAR_NUMBERS + (0, 1, 2, 3):
                    seed = nth_in_group(groups, group, index)
                    # Each row holds one seed of the group: the one with its index.
                    self.assertTrue(index * groups < seed <= (index + 1) * groups, (groups, group, index))
                    self.assertTrue(in_group_by_remainder(groups, group, seed), (groups, group, index))
                    self.assertEqual(snake_group(groups, seed), group)

    def test_group_sum_of_an_even_count(self):
        for groups in (1, 2, 3, 7, 12, 10 ** 20, FAR, FARTHEST):
            for group in groups_at_both_ends(groups):
                for count in (2, 4, 10 ** 20, FAR - 1, FAR + 1, FARTHEST - 1):
                    # With as many rows forwards as backwards all groups have the same sum.
                    seeds = groups * count
                    whole = seeds * (seeds + 1) // 2
                    self.assertEqual(group_sum(groups, group, count) * groups, whole, (groups, group, count))

    def test_group_sum_grows_by_the_next_seed(self):
        for groups in (1, 2, 3, 7, 12, 10 ** 20, FAR, FARTHEST):
            for group in groups_at_both_ends(groups):
                for count in FAR_NUMBERS + (0, 1, 2, 3):
                    step = group_sum(groups, group, count + 1) - group_sum(groups, group, count)
                    self.assertEqual(step, nth_in_group(groups, group, count), (groups, group, count))

    def test_first_sums_of_many_groups(self):
        sums = [group_sum(FAR, 1, count) for count in range(5)]
        self.assertEqual(sums, [0, 1, 2 * FAR + 1, 4 * FAR + 2, 8 * FAR + 2])
        sums = [group_sum(FAR, FAR, count) for count in range(5)]
        self.assertEqual(sums, [0, FAR, 2 * FAR + 1, 5 * FAR + 1, 8 * FAR + 2])

    def test_returned_values_may_be_passed_back(self):
        seed = nth_in_group(FARTHEST, FARTHEST, FARTHEST)
        self.assertEqual(snake_group(FARTHEST, seed), FARTHEST)
        self.assertEqual(snake_group(FARTHEST, nth_in_group(FARTHEST, 1, seed)), 1)
        total = group_sum(FARTHEST, 1, FARTHEST)
        self.assertTrue(in_group_by_remainder(3, snake_group(3, total), total))


class TestArguments(CupTestCase):
    """[2]: arguments by position and by name."""

    def test_by_name(self):
        self.assertEqual(snake_group(groups=3, seed=4), 3)
        self.assertEqual(snake_group(seed=4, groups=3), 3)
        self.assertEqual(nth_in_group(groups=3, group=1, index=2), 7)
        self.assertEqual(nth_in_group(index=2, group=1, groups=3), 7)
        self.assertEqual(group_sum(groups=3, group=1, count=3), 14)
        self.assertEqual(group_sum(count=3, group=1, groups=3), 14)
        self.assertIs(refines(groups=4, other=2), True)
        self.assertIs(refines(other=2, groups=4), True)

    def test_by_position_and_name(self):
        self.assertEqual(snake_group(3, seed=4), 3)
        self.assertEqual(nth_in_group(3, 1, index=2), 7)
        self.assertEqual(group_sum(3, count=3, group=1), 14)
        self.assertIs(refines(4, other=2), True)

    def test_kinds_of_results(self):
        results = [snake_group(1, 1), nth_in_group(1, 1, 0), group_sum(1, 1, 0), group_sum(1, 1, 1)]
        for result in results:
            self.assertIs(result.__class__, int)

    def test_calls_do_not_influence_each_other(self):
        for groups, seed in itertools.product((3, 5, 3), (4, 6, 4)):
            self.assertEqual(snake_group(groups, seed), {(3, 4): 3, (3, 6): 1, (5, 4): 4, (5, 6): 5}[groups, seed])


if __name__ == "__main__":
    unittest.main()
