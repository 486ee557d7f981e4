"""[3] and [7]: the errors of wrong arguments, and their order."""

import itertools
import unittest

from helper import NO_INTEGERS, CupTestCase
from seedcup.blocks import block_of, bracket, member_index, nth_member, place_of, seed_at
from seedcup.byes import count_matches, count_opponents, first_match
from seedcup.errors import (InvalidBlock, InvalidGroup, InvalidGroups, InvalidIndex, InvalidLevel,
                            InvalidPlayers, InvalidRound, InvalidRounds, InvalidSeed, SameSeed)
from seedcup.meetings import common_level, meeting_round, share_block
from seedcup.opponents import expected_path, nth_opponent, opponents
from seedcup.snakes import group_sum, nth_in_group, refines, snake_group


def first_of_bracket(rounds):
    return next(bracket(rounds))


def first_of_opponents(rounds, seed, stage):
    return next(opponents(rounds, seed, stage))


FAR = 10 ** 39


# Each of these functions gives an error and integers just outside the range, or far outside.
def wrong_rounds():
    return InvalidRounds, (0, 101, -1, -FAR, FAR)


def wrong_seed(rounds):
    return InvalidSeed, (0, 2 ** rounds + 1, -1, -FAR, FAR)


def wrong_level(rounds):
    return InvalidLevel, (-1, rounds + 1, -FAR, FAR)


def wrong_block(rounds, level):
    return InvalidBlock, (0, 2 ** (rounds - level) + 1, -1, -FAR, FAR)


def wrong_index(size):
    return InvalidIndex, (-1, size, -FAR, FAR)


def wrong_stage(rounds):
    return InvalidRound, (0, rounds + 1, -1, -FAR, FAR)


def wrong_players(rounds):
    return InvalidPlayers, (0, 2 ** rounds + 1, -1, -FAR, FAR)


def wrong_player(players):
    return InvalidSeed, (0, players + 1, -1, -FAR, FAR)


def wrong_groups():
    return InvalidGroups, (0, -1, -2, -FAR)


def wrong_group(groups):
    return InvalidGroup, (0, groups + 1, -1, -FAR)


# These have no upper end.
WRONG_SEED_OF_A_SNAKE = InvalidSeed, (0, -1, -2, -FAR)
WRONG_INDEX_OF_A_SNAKE = InvalidIndex, (-1, -2, -FAR)


def cases_of(rounds, level):
    """For each function some good arguments, and for each of them its error and wrong integers."""
    seed = wrong_seed(rounds)
    most = 2 ** rounds
    return [
        (first_of_bracket, (rounds,), [wrong_rounds()]),
        (seed_at, (rounds, 0), [wrong_rounds(), wrong_index(most)]),
        (place_of, (rounds, most), [wrong_rounds(), seed]),
        (block_of, (rounds, level, most), [wrong_rounds(), wrong_level(rounds), seed]),
        (member_index, (rounds, level, 1), [wrong_rounds(), wrong_level(rounds), seed]),
        (nth_member, (rounds, level, 1, 0),
         [wrong_rounds(), wrong_level(rounds), wrong_block(rounds, level), wrong_index(2 ** level)]),
        (meeting_round, (rounds, 1, most), [wrong_rounds(), seed, seed]),
        (common_level, (rounds, 1), [wrong_rounds(), seed]),
        (common_level, (rounds, 1, most, 2), [wrong_rounds(), seed, seed, seed]),
        (share_block, (rounds, level), [wrong_rounds(), wrong_level(rounds)]),
        (share_block, (rounds, level, 1, most, 2), [wrong_rounds(), wrong_level(rounds), seed, seed, seed]),
    ]


def opponent_cases_of(rounds, stage):
    most = 2 ** rounds
    wrongs = [wrong_rounds(), wrong_seed(rounds), wrong_stage(rounds)]
    return [
        (nth_opponent, (rounds, most, stage, 0), wrongs + [wrong_index(2 ** (stage - 1))]),
        (first_of_opponents, (rounds, 1, stage), wrongs),
        (expected_path, (rounds, most), wrongs[:2]),
    ]


def bye_cases_of(rounds, players, stage):
    wrongs = [wrong_rounds(), wrong_players(rounds)]
    player = wrong_player(players)
    return [
        (count_matches, (rounds, players, stage), wrongs + [wrong_stage(rounds)]),
        (first_match, (rounds, players, players), wrongs + [player]),
        (count_opponents, (rounds, players, 1, stage), wrongs + [player, wrong_stage(rounds)]),
    ]


def snake_cases_of(groups):
    group = wrong_group(groups)
    return [
        (snake_group, (groups, 1), [wrong_groups(), WRONG_SEED_OF_A_SNAKE]),
        (snake_group, (groups, FAR), [wrong_groups(), WRONG_SEED_OF_A_SNAKE]),
        (nth_in_group, (groups, groups, 0), [wrong_groups(), group, WRONG_INDEX_OF_A_SNAKE]),
        (nth_in_group, (groups, 1, FAR), [wrong_groups(), group, WRONG_INDEX_OF_A_SNAKE]),
        (group_sum, (groups, groups, 0), [wrong_groups(), group, WRONG_INDEX_OF_A_SNAKE]),
        (group_sum, (groups, 1, FAR), [wrong_groups(), group, WRONG_INDEX_OF_A_SNAKE]),
        (refines, (groups, 1), [wrong_groups(), wrong_groups()]),
        (refines, (1, groups), [wrong_groups(), wrong_groups()]),
    ]


def all_cases():
    cases = []
    for rounds, level in ((1, 0), (1, 1), (3, 0), (3, 2), (3, 3), (100, 0), (100, 64), (100, 100)):
        cases += cases_of(rounds, level)
    for rounds, stage in ((1, 1), (3, 1), (3, 2), (3, 3), (100, 1), (100, 64), (100, 100)):
        cases += opponent_cases_of(rounds, stage)
        for players in (1, 2, 2 ** rounds - 1, 2 ** rounds):
            cases += bye_cases_of(rounds, players, stage)
    for groups in (1, 2, 5, FAR):
        cases += snake_cases_of(groups)
    return cases


class TestWrongArguments(CupTestCase):
    def test_the_good_arguments_are_good(self):
        for function, good, _ in all_cases():
            function(*good)

    def test_integers_out_of_range(self):
        for function, good, wrongs in all_cases():
            for at, (error_class, values) in enumerate(wrongs):
                for value in values:
                    self.assert_error(error_class, function, *good[:at], value, *good[at + 1:])

    def test_values_that_are_no_integers(self):
        for function, good, wrongs in all_cases():
            for at, (error_class, _) in enumerate(wrongs):
                for value in NO_INTEGERS:
                    self.assert_error(error_class, function, *good[:at], value, *good[at + 1:])

    def test_floats_are_no_integers(self):
        self.assert_error(InvalidRounds, place_of, 3.0, 1)
        self.assert_error(InvalidSeed, place_of, 3, 1.0)
        self.assert_error(InvalidLevel, block_of, 3, 1.0, 1)
        self.assert_error(InvalidBlock, nth_member, 3, 1, 1.0, 0)
        self.assert_error(InvalidIndex, nth_member, 3, 1, 1, 0.0)
        self.assert_error(InvalidRound, nth_opponent, 3, 1, 1.0, 0)
        self.assert_error(InvalidPlayers, count_matches, 3, 5.0, 1)
        self.assert_error(InvalidGroups, snake_group, 3.0, 1)
        self.assert_error(InvalidGroup, nth_in_group, 3, 1.0, 1)

    def test_wrong_values_stay_as_they_are(self):
        wrong = [1, 2]
        for function, good, wrongs in all_cases():
            for at, (error_class, _) in enumerate(wrongs):
                self.assert_error(error_class, function, *good[:at], wrong, *good[at + 1:])
        self.assertEqual(wrong, [1, 2])


class TestOrder(CupTestCase):
    """The error is that of the first parameter with a wrong argument."""

    def test_every_choice_of_wrong_arguments(self):
        for function, good, wrongs in all_cases():
            for size in range(2, len(good) + 1):
                for places in itertools.combinations(range(len(good)), size):
                    self.check_order(function, good, wrongs, places)

    def check_order(self, function, good, wrongs, places):
        first_class = wrongs[places[0]][0]
        for pick in (0, 1, -1):
            numbers = [wrongs[at][1][pick] if at in places else value for at, value in enumerate(good)]
            self.assert_error(first_class, function, *numbers)
        nothing = [None if at in places else value for at, value in enumerate(good)]
        self.assert_error(first_class, function, *nothing)

    def test_order_by_name(self):
        self.assert_error(InvalidRounds, seed_at, place=-1, rounds=0)
        self.assert_error(InvalidRounds, place_of, seed=0, rounds=0)
        self.assert_error(InvalidLevel, block_of, seed=0, level=-1, rounds=3)
        self.assert_error(InvalidLevel, member_index, seed=0, level=-1, rounds=3)
        self.assert_error(InvalidBlock, nth_member, index=-1, block=0, level=1, rounds=3)
        self.assert_error(InvalidSeed, meeting_round, second=1, first=0, rounds=3)
        self.assert_error(InvalidSeed, nth_opponent, index=-1, stage=0, seed=0, rounds=3)
        self.assert_error(InvalidRound, nth_opponent, index=-1, stage=0, seed=1, rounds=3)
        self.assert_error(InvalidRounds, expected_path, seed=0, rounds=0)
        self.assert_error(InvalidPlayers, count_opponents, stage=0, seed=0, players=0, rounds=3)
        self.assert_error(InvalidSeed, count_opponents, stage=0, seed=0, players=1, rounds=3)
        self.assert_error(InvalidPlayers, count_matches, stage=0, players=0, rounds=3)
        self.assert_error(InvalidPlayers, first_match, seed=0, players=0, rounds=3)
        self.assert_error(InvalidGroups, snake_group, seed=0, groups=0)
        self.assert_error(InvalidGroup, nth_in_group, index=-1, group=0, groups=3)
        self.assert_error(InvalidGroups, group_sum, count=-1, group=0, groups=0)

    def test_equal_seeds_come_last(self):
        self.assert_error(SameSeed, meeting_round, 3, 8, 8)
        self.assert_error(InvalidSeed, meeting_round, 3, 9, 9)
        self.assert_error(InvalidSeed, meeting_round, 3, 0, 0)
        self.assert_error(InvalidSeed, meeting_round, 3, None, None)
        self.assert_error(InvalidSeed, meeting_round, 3, 1, True)
        self.assert_error(InvalidSeed, meeting_round, 3, True, 1)
        self.assert_error(InvalidRounds, meeting_round, 0, 1, 1)

    def test_all_seeds_are_checked_although_the_answer_is_clear(self):
        self.assert_error(InvalidSeed, share_block, 3, 0, 1, 2, 9)
        self.assert_error(InvalidSeed, share_block, 3, 3, 1, 2, 9)
        self.assert_error(InvalidSeed, common_level, 3, 1, 2, 3, 9)
        self.assert_error(InvalidSeed, share_block, 3, 0, 1, 2, None)

    def test_a_seed_that_only_fits_a_larger_cup(self):
        self.assertEqual(place_of(4, 9), 3)
        self.assert_error(InvalidSeed, place_of, 3, 9)

    def test_a_seed_that_only_fits_more_players(self):
        self.assertEqual(first_match(3, 6, 6), 1)
        self.assert_error(InvalidSeed, first_match, 3, 5, 6)
        self.assert_error(InvalidSeed, count_opponents, 3, 5, 6, 1)
        self.assert_error(InvalidSeed, count_opponents, 3, 5, 6, 0)

    def test_an_index_that_only_fits_a_later_round(self):
        self.assertEqual(nth_opponent(3, 1, 3, 3), 7)
        self.assert_error(InvalidIndex, nth_opponent, 3, 1, 2, 3)
        self.assert_error(InvalidIndex, nth_opponent, 3, 1, 1, 1)


class TestGenerator(CupTestCase):
    """A generator raises when its first value is asked for, not when it is called."""

    def test_bracket_raises_late(self):
        for rounds in (0, 101, -1) + NO_INTEGERS:
            seeds = bracket(rounds)
            self.assert_error(InvalidRounds, seeds.__next__)

    def test_bracket_raises_late_by_name(self):
        seeds = bracket(rounds=0)
        self.assert_error(InvalidRounds, seeds.__next__)

    def test_opponents_raise_late(self):
        for wrong in (0, 101, -1) + NO_INTEGERS:
            found = opponents(wrong, 1, 1)
            self.assert_error(InvalidRounds, found.__next__)
            found = opponents(3, wrong, 1)
            self.assert_error(InvalidSeed, found.__next__)
            found = opponents(3, 1, wrong)
            self.assert_error(InvalidRound, found.__next__)

    def test_opponents_raise_late_by_name(self):
        found = opponents(stage=0, seed=0, rounds=3)
        self.assert_error(InvalidSeed, found.__next__)
        found = opponents(stage=4, seed=8, rounds=3)
        self.assert_error(InvalidRound, found.__next__)


if __name__ == "__main__":
    unittest.main()
