"""[3] and [7]: the errors of wrong arguments, and their order."""

import itertools
import unittest

from helper import NO_INTEGERS, CupTestCase
from seedcup.blocks import block_of, bracket, member_index, nth_member, place_of, seed_at
from seedcup.errors import (InvalidBlock, InvalidIndex, InvalidLevel, InvalidRounds, InvalidSeed,
                            SameSeed)
from seedcup.meetings import common_level, meeting_round, share_block


def first_of_bracket(rounds):
    return next(bracket(rounds))


FAR = 10 ** 39


# Each of these functions gives an error and integers just outside the range, or far outside.
def wrong_rounds():
    return InvalidRounds, (0, 101, -1, -FAR, FAR)


def wrong_seed(rounds):
    return InvalidSeed, (0, 2 ** rounds + 1, -1, -FAR, FAR)


def wrong_level(rounds):
    return InvalidLevel, (-1, rounds + 1, -FAR, FAR)


def wrong_block(rounds, level):
    return InvalidBlock, (0, 2 ** (rounds - level) + 1, -1, -FAR, FAR)


def wrong_index(size):
    return InvalidIndex, (-1, size, -FAR, FAR)


def cases_of(rounds, level):
    """For each function some good arguments, and for each of them its error and wrong integers."""
    seed = wrong_seed(rounds)
    most = 2 ** rounds
    return [
        (first_of_bracket, (rounds,), [wrong_rounds()]),
        (seed_at, (rounds, 0), [wrong_rounds(), wrong_index(most)]),
        (place_of, (rounds, most), [wrong_rounds(), seed]),
        (block_of, (rounds, level, most), [wrong_rounds(), wrong_level(rounds), seed]),
        (member_index, (rounds, level, 1), [wrong_rounds(), wrong_level(rounds), seed]),
        (nth_member, (rounds, level, 1, 0),
         [wrong_rounds(), wrong_level(rounds), wrong_block(rounds, level), wrong_index(2 ** level)]),
        (meeting_round, (rounds, 1, most), [wrong_rounds(), seed, seed]),
        (common_level, (rounds, 1), [wrong_rounds(), seed]),
        (common_level, (rounds, 1, most, 2), [wrong_rounds(), seed, seed, seed]),
        (share_block, (rounds, level), [wrong_rounds(), wrong_level(rounds)]),
        (share_block, (rounds, level, 1, most, 2), [wrong_rounds(), wrong_level(rounds), seed, seed, seed]),
    ]


def all_cases():
    for rounds, level in ((1, 0), (1, 1), (3, 0), (3, 2), (3, 3), (100, 0), (100, 64), (100, 100)):
        for case in cases_of(rounds, level):
            yield case


class TestWrongArguments(CupTestCase):
    def test_the_good_arguments_are_good(self):
        for function, good, _ in all_cases():
            function(*good)

    def test_integers_out_of_range(self):
        for function, good, wrongs in all_cases():
            for at, (error_class, values) in enumerate(wrongs):
                for value in values:
                    self.assert_error(error_class, function, *good[:at], value, *good[at + 1:])

    def test_values_that_are_no_integers(self):
        for function, good, wrongs in all_cases():
            for at, (error_class, _) in enumerate(wrongs):
                for value in NO_INTEGERS:
                    self.assert_error(error_class, function, *good[:at], value, *good[at + 1:])

    def test_floats_are_no_integers(self):
        self.assert_error(InvalidRounds, place_of, 3.0, 1)
        self.assert_error(InvalidSeed, place_of, 3, 1.0)
        self.assert_error(InvalidLevel, block_of, 3, 1.0, 1)
        self.assert_error(InvalidBlock, nth_member, 3, 1, 1.0, 0)
        self.assert_error(InvalidIndex, nth_member, 3, 1, 1, 0.0)

    def test_wrong_values_stay_as_they_are(self):
        wrong = [1, 2]
        for function, good, wrongs in all_cases():
            for at, (error_class, _) in enumerate(wrongs):
                self.assert_error(error_class, function, *good[:at], wrong, *good[at + 1:])
        self.assertEqual(wrong, [1, 2])


class TestOrder(CupTestCase):
    """The error is that of the first parameter with a wrong argument."""

    def test_every_choice_of_wrong_arguments(self):
        for function, good, wrongs in all_cases():
            for size in range(2, len(good) + 1):
                for places in itertools.combinations(range(len(good)), size):
                    self.check_order(function, good, wrongs, places)

    def check_order(self, function, good, wrongs, places):
        first_class = wrongs[places[0]][0]
        for pick in (0, 1, -1):
            numbers = [wrongs[at][1][pick] if at in places else value for at, value in enumerate(good)]
            self.assert_error(first_class, function, *numbers)
        nothing = [None if at in places else value for at, value in enumerate(good)]
        self.assert_error(first_class, function, *nothing)

    def test_order_by_name(self):
        self.assert_error(InvalidRounds, seed_at, place=-1, rounds=0)
        self.assert_error(InvalidRounds, place_of, seed=0, rounds=0)
        self.assert_error(InvalidLevel, block_of, seed=0, level=-1, rounds=3)
        self.assert_error(InvalidLevel, member_index, seed=0, level=-1, rounds=3)
        self.assert_error(InvalidBlock, nth_member, index=-1, block=0, level=1, rounds=3)
        self.assert_error(InvalidSeed, meeting_round, second=1, first=0, rounds=3)

    def test_equal_seeds_come_last(self):
        self.assert_error(SameSeed, meeting_round, 3, 8, 8)
        self.assert_error(InvalidSeed, meeting_round, 3, 9, 9)
        self.assert_error(InvalidSeed, meeting_round, 3, 0, 0)
        self.assert_error(InvalidSeed, meeting_round, 3, None, None)
        self.assert_error(InvalidSeed, meeting_round, 3, 1, True)
        self.assert_error(InvalidSeed, meeting_round, 3, True, 1)
        self.assert_error(InvalidRounds, meeting_round, 0, 1, 1)

    def test_all_seeds_are_checked_although_the_answer_is_clear(self):
        self.assert_error(InvalidSeed, share_block, 3, 0, 1, 2, 9)
        self.assert_error(InvalidSeed, share_block, 3, 3, 1, 2, 9)
        self.assert_error(InvalidSeed, common_level, 3, 1, 2, 3, 9)
        self.assert_error(InvalidSeed, share_block, 3, 0, 1, 2, None)

    def test_a_seed_that_only_fits_a_larger_cup(self):
        self.assertEqual(place_of(4, 9), 3)
        self.assert_error(InvalidSeed, place_of, 3, 9)


class TestGenerator(CupTestCase):
    """A generator raises when its first value is asked for, not when it is called."""

    def test_bracket_raises_late(self):
        for rounds in (0, 101, -1) + NO_INTEGERS:
            seeds = bracket(rounds)
            self.assert_error(InvalidRounds, seeds.__next__)

    def test_bracket_raises_late_by_name(self):
        seeds = bracket(rounds=0)
        self.assert_error(InvalidRounds, seeds.__next__)


if __name__ == "__main__":
    unittest.main()
