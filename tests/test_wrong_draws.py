"""[3] and [19]: the errors of wrong draws and indexes, and their order."""

import unittest

from helper import NO_INTEGERS, CupTestCase, bracket_by_rule
from seedcup.draws import is_standard, nth_draw, rank_draw, why_not_standard
from seedcup.errors import InvalidDraw, InvalidIndex, InvalidRounds, NotStandard, TooLarge

FAR = 10 ** 39
DRAW_FUNCTIONS = (is_standard, why_not_standard, rank_draw)

NO_DRAWS = (
    # other kinds
    None, True, False, 0, 1, 2, "", "12", "1 2", b"\x01\x02", {}, {1: 2, 2: 1}, {0: 1, 1: 2},
    (), (1, 2), (1, 4, 2, 3), range(1, 3), {1, 2},
    # other lengths
    [], [1], [1, 2, 3], [1, 2, 3, 4, 5], [1, 6, 2, 5, 3, 4], list(range(1, 8)), list(range(1, 10)),
    list(range(1, 128)), list(range(1, 130)), bracket_by_rule(8),
    # repeated and missing seeds
    [1, 1], [2, 2], [1, 3], [2, 3], [0, 1], [0, 2], [1, -2], [1, 4, 2, 2], [1, 4, 4, 3], [1, 5, 2, 4], [0, 3, 1, 2],
    [2, 3, 4, 5], [1, 4, 2, FAR], [-1, 4, 2, 3], [1, 2, 1, 2],
    # values among the seeds that are no integers
    [True, 2], [2, True], [True, 4, 2, 3], [False, 1], [1, False], [1, None], [None, 2], [None, None], ["1", "2"],
    [1, "2"], ["1", 2], [1, [2]], [[1], [2]], [[1, 2]], [(1, 2), (2, 1)], [1, (2,)], [{}, 2], [1, {}], [1, b"\x02"],
    [1.0, 2], [1, 2.0], [1, 4, 2, 3.0],
    # a draw within a list
    [[1, 2], [1, 2]], [[1, 4, 2, 3]],
)


class TestWrongDraws(CupTestCase):
    def test_values_that_are_no_draw(self):
        for value in NO_DRAWS:
            for function in DRAW_FUNCTIONS:
                self.assert_error(InvalidDraw, function, value)

    def test_one_seed_replaced(self):
        for rounds in range(1, 8):
            draw = bracket_by_rule(rounds)
            for at in sorted({0, 1, len(draw) // 2, len(draw) - 1}):
                for value in (0, -1, len(draw) + 1, FAR, draw[at - 1]) + NO_INTEGERS:
                    changed = draw[:at] + [value] + draw[at + 1:]
                    for function in DRAW_FUNCTIONS:
                        self.assert_error(InvalidDraw, function, changed)

    def test_a_seed_too_few_or_too_many(self):
        for rounds in range(2, 8):
            draw = bracket_by_rule(rounds)
            for function in DRAW_FUNCTIONS:
                self.assert_error(InvalidDraw, function, draw[:-1])
                self.assert_error(InvalidDraw, function, draw[1:])
                self.assert_error(InvalidDraw, function, draw + [len(draw) + 1])
                self.assert_error(InvalidDraw, function, draw + draw)

    def test_the_smallest_and_the_largest_draws_are_good(self):
        for draw in ([1, 2], [2, 1], bracket_by_rule(7)):
            self.assertIs(is_standard(draw), True)
            self.assertEqual(nth_draw(len(draw).bit_length() - 1, rank_draw(draw)), draw)

    def test_draws_that_are_not_standard(self):
        for draw in ([1, 2, 3, 4], [1, 3, 2, 4], [4, 2, 1, 3], list(range(1, 129))):
            self.assertIs(is_standard(draw), False)
            self.assert_error(NotStandard, rank_draw, draw)

    def test_wrong_values_stay_as_they_are(self):
        wrong = [2, 1, True, 4]
        for function in DRAW_FUNCTIONS:
            self.assert_error(InvalidDraw, function, wrong)
        self.assertEqual(wrong, [2, 1, True, 4])
        self.assertIs(wrong[2], True)


class TestWrongIndexes(CupTestCase):
    def test_wrong_rounds(self):
        for rounds in (0, 101, -1, -FAR, FAR) + NO_INTEGERS:
            for index in (0, -1, None):
                self.assert_error(InvalidRounds, nth_draw, rounds, index)

    def test_more_than_seven_rounds(self):
        for rounds in (8, 9, 64, 99, 100):
            for index in (0, 1, -1, FAR, None, True):
                self.assert_error(TooLarge, nth_draw, rounds, index)
                with self.assertRaises(TooLarge) as caught:
                    nth_draw(rounds, index)
                self.assertEqual(caught.exception.limit, 7)

    def test_wrong_indexes(self):
        for rounds in range(1, 8):
            count = 2 ** (2 ** rounds - 1)
            nth_draw(rounds, 0)
            nth_draw(rounds, count - 1)
            for index in (-1, count, count + 1, -FAR, FAR) + NO_INTEGERS:
                self.assert_error(InvalidIndex, nth_draw, rounds, index)

    def test_an_index_that_only_fits_more_rounds(self):
        self.assertEqual(nth_draw(3, 8), [1, 8, 5, 4, 2, 7, 3, 6])
        self.assert_error(InvalidIndex, nth_draw, 2, 8)

    def test_order_by_name(self):
        self.assert_error(InvalidRounds, nth_draw, index=-1, rounds=0)
        self.assert_error(TooLarge, nth_draw, index=-1, rounds=8)
        self.assert_error(InvalidIndex, nth_draw, index=-1, rounds=7)


if __name__ == "__main__":
    unittest.main()
