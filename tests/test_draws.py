import itertools
import random
import unittest

from helper import CupTestCase, bracket_by_rule
from seedcup.draws import is_standard, nth_draw, rank_draw, why_not_standard
from seedcup.errors import NotStandard


def level_of(first, second):
    """The least level of a block that contains two places."""
    level = 0
    while first // 2 ** level != second // 2 ** level:
        level += 1
    return level


def why_not_by_places(draw):
    """The answer of why_not_standard, by the places of the bracket."""
    rounds = level_of(0, len(draw) - 1)
    places = {seed: place for place, seed in enumerate(bracket_by_rule(rounds))}
    for j, later in enumerate(draw):
        for i, earlier in enumerate(draw[:j]):
            if level_of(i, j) != level_of(places[earlier], places[later]):
                return i, j
    return None


def draws_by_exchanging(seeds):
    """All draws that come from a part of the bracket by exchanging the halves of some blocks."""
    if len(seeds) == 1:
        return [seeds]
    half = len(seeds) // 2
    firsts, lasts = draws_by_exchanging(seeds[:half]), draws_by_exchanging(seeds[half:])
    return [first + last for pair in ((firsts, lasts), (lasts, firsts)) for first in pair[0] for last in pair[1]]


def exchange_some(seeds, chance):
    """One of these draws."""
    if len(seeds) == 1:
        return seeds
    half = len(seeds) // 2
    parts = [exchange_some(seeds[:half], chance), exchange_some(seeds[half:], chance)]
    chance.shuffle(parts)
    return parts[0] + parts[1]


STANDARD = {rounds: sorted(draws_by_exchanging(bracket_by_rule(rounds))) for rounds in (1, 2, 3)}


class TestExamples(unittest.TestCase):
    """The examples of section 12."""

    def test_is_standard(self):
        self.assertIs(is_standard([3, 2, 4, 1]), True)

    def test_why_not_standard(self):
        self.assertEqual(why_not_standard([1, 2, 3, 4]), (0, 1))

    def test_nth_draw(self):
        self.assertEqual(nth_draw(2, 1), [1, 4, 3, 2])

    def test_rank_draw(self):
        self.assertEqual(rank_draw([3, 2, 4, 1]), 5)


class TestStandard(CupTestCase):
    """[19]: which draws are standard."""

    def check_draw(self, draw):
        expected = why_not_by_places(draw)
        self.assertEqual(why_not_standard(draw), expected, draw)
        self.assertIs(is_standard(draw), expected is None, draw)
        if expected is not None:
            self.assert_error(NotStandard, rank_draw, draw)

    def test_all_draws_of_two_and_four_seeds(self):
        standard = []
        for count in (2, 4):
            for seeds in itertools.permutations(range(1, count + 1)):
                self.check_draw(list(seeds))
                if is_standard(list(seeds)):
                    standard.append(list(seeds))
        self.assertEqual(standard, STANDARD[1] + STANDARD[2])

    def test_draws_of_eight_seeds(self):
        for number, seeds in enumerate(itertools.permutations(range(1, 9))):
            if number % 7 == 0:
                self.check_draw(list(seeds))

    def test_all_standard_draws_of_eight_seeds(self):
        self.assertEqual(len(STANDARD[3]), 128)
        for draw in STANDARD[3]:
            self.assertIs(is_standard(draw), True)
            self.assertIsNone(why_not_standard(draw))

    def test_two_seeds_exchanged(self):
        for rounds in (3, 4, 5):
            draw = bracket_by_rule(rounds)
            for i, j in itertools.combinations(range(len(draw)), 2):
                changed = list(draw)
                changed[i], changed[j] = draw[j], draw[i]
                self.check_draw(changed)

    def test_large_draws(self):
        chance = random.Random(12)
        for rounds in (4, 5, 6, 7):
            for _ in range(10):
                draw = exchange_some(bracket_by_rule(rounds), chance)
                self.assertIs(is_standard(draw), True, draw)
                self.assertIsNone(why_not_standard(draw), draw)
                i, j = chance.sample(range(2 ** rounds), 2)
                draw[i], draw[j] = draw[j], draw[i]
                self.check_draw(draw)
            self.check_draw(list(range(1, 2 ** rounds + 1)))
            self.check_draw(list(range(2 ** rounds, 0, -1)))
            self.check_draw(chance.sample(range(1, 2 ** rounds + 1), 2 ** rounds))

    def test_only_the_last_seeds_are_wrong(self):
        # The blocks of the first seeds hold, whatever comes behind them.
        self.assertEqual(why_not_standard([1, 8, 4, 5, 2, 3, 7, 6]), (4, 5))
        self.assertEqual(why_not_standard([1, 8, 4, 5, 2, 7, 6, 3]), None)
        self.assertEqual(why_not_standard([1, 8, 4, 6, 2, 7, 3, 5]), (0, 3))
        self.assertEqual(why_not_standard([2, 7, 1, 8, 3, 6, 4, 5]), (0, 2))


class TestIndexes(unittest.TestCase):
    """[19]: standard draws by their indexes, in ascending order of lists."""

    def test_all_draws_of_small_cups(self):
        for rounds, draws in STANDARD.items():
            self.assertEqual(len(draws), 2 ** (2 ** rounds - 1))
            for index, draw in enumerate(draws):
                self.assertEqual(nth_draw(rounds, index), draw, (rounds, index))
                self.assertEqual(rank_draw(draw), index, draw)

    def test_first_draws_of_larger_cups(self):
        # In the first draws only the last blocks are changed, so they begin alike.
        for rounds in (4, 5, 6, 7):
            first = nth_draw(rounds, 0)
            self.assertEqual(first[:4], [1, 2 ** rounds, 2 ** (rounds - 1), 2 ** (rounds - 1) + 1])
            draws = [nth_draw(rounds, index) for index in range(40)]
            self.assertEqual(draws, sorted(draws))
            self.assertEqual(len({tuple(draw) for draw in draws}), 40)

    def test_first_and_last_index(self):
        for rounds in range(1, 8):
            last = 2 ** (2 ** rounds - 1) - 1
            self.assertEqual(nth_draw(rounds, 0), self.least(bracket_by_rule(rounds), min))
            self.assertEqual(nth_draw(rounds, last), self.least(bracket_by_rule(rounds), max))
            self.assertEqual(rank_draw(nth_draw(rounds, 0)), 0)
            self.assertEqual(rank_draw(nth_draw(rounds, last)), last)

    def least(self, seeds, choose):
        """The draw that begins with the least seed in each block, or with the greatest one."""
        if len(seeds) == 1:
            return seeds
        half = len(seeds) // 2
        parts = [self.least(seeds[:half], choose), self.least(seeds[half:], choose)]
        first = choose(parts)
        return first + parts[1 - parts.index(first)]

    def test_they_undo_each_other(self):
        chance = random.Random(19)
        for rounds in range(1, 8):
            most = 2 ** (2 ** rounds - 1)
            for _ in range(60):
                index = chance.randrange(most)
                draw = nth_draw(rounds, index)
                self.assertIsNone(why_not_by_places(draw) if rounds < 6 else why_not_standard(draw))
                self.assertEqual(rank_draw(draw), index, (rounds, index))
                draw = exchange_some(bracket_by_rule(rounds), chance)
                self.assertEqual(nth_draw(rounds, rank_draw(draw)), draw)

    def test_ascending_order(self):
        chance = random.Random(20)
        for rounds in range(2, 8):
            most = 2 ** (2 ** rounds - 1)
            indexes = sorted({chance.randrange(most) for _ in range(40)} | {index for index in range(8)}
                             | {most - 1 - index for index in range(8)})
            near = sorted({near for index in indexes for near in (index, index + 1) if near < most})
            draws = [nth_draw(rounds, index) for index in near]
            self.assertEqual(draws, sorted(draws))

    def test_the_bracket_itself(self):
        self.assertEqual(rank_draw(bracket_by_rule(1)), 0)
        for rounds in range(1, 8):
            draw = bracket_by_rule(rounds)
            self.assertEqual(nth_draw(rounds, rank_draw(draw)), draw)


class TestArguments(unittest.TestCase):
    """[1] and [2]: arguments by position and by name, new lists, and that arguments stay as they are."""

    def test_by_name(self):
        self.assertIs(is_standard(draw=[3, 2, 4, 1]), True)
        self.assertEqual(why_not_standard(draw=[1, 2, 3, 4]), (0, 1))
        self.assertEqual(nth_draw(rounds=2, index=1), [1, 4, 3, 2])
        self.assertEqual(nth_draw(index=1, rounds=2), [1, 4, 3, 2])
        self.assertEqual(nth_draw(2, index=1), [1, 4, 3, 2])
        self.assertEqual(rank_draw(draw=[3, 2, 4, 1]), 5)

    def test_the_draw_stays_as_it_is(self):
        for draw in ([3, 2, 4, 1], nth_draw(7, 12345)):
            copy = list(draw)
            is_standard(draw)
            why_not_standard(draw)
            rank_draw(draw)
            self.assertEqual(draw, copy)

    def test_a_returned_list_belongs_to_the_caller(self):
        first, second = nth_draw(2, 1), nth_draw(2, 1)
        self.assertIsNot(first, second)
        first.reverse()
        first.append(9)
        self.assertEqual(second, [1, 4, 3, 2])
        self.assertEqual(nth_draw(2, 1), [1, 4, 3, 2])

    def test_kinds_of_results(self):
        self.assertEqual({seed.__class__ for seed in nth_draw(3, 77)}, {int})
        self.assertIs(nth_draw(3, 77).__class__, list)
        self.assertIs(rank_draw([1, 2]).__class__, int)
        self.assertIs(why_not_standard([1, 2, 3, 4]).__class__, tuple)


if __name__ == "__main__":
    unittest.main()
