"""[3], [16] and [18]: the errors of the functions that take a list of claims, and their order."""

import itertools
import unittest

from helper import NO_INTEGERS, CupTestCase
from seedcup.chances import can_meet, count_winners, nth_winner, possible_ends
from seedcup.errors import (Inconsistent, InvalidBlock, InvalidClaims, InvalidIndex, InvalidLevel, InvalidRounds,
                            InvalidSeed, SameSeed)
from seedcup.upsets import expected_winner, fewest_upsets, upset_matches

FAR = 10 ** 39
AGAINST = [("won", 1, 1), ("out", 1, 1)]
ALL_FUNCTIONS = (possible_ends, can_meet, count_winners, nth_winner, expected_winner, upset_matches, fewest_upsets)

# Values that are no claim, whatever the number of rounds.
NO_CLAIMS = (
    None, True, 0, "", "5 won 2", b"won", [], {}, (), ("won",), ("won", 1), ("won", 1, 1, 1), ["won", 1, 1],
    [("won", 1, 1)], (("won", 1, 1),), ("win", 1, 1), ("OUT", 1, 1), ("", 1, 1), (b"won", 1, 1), (None, 1, 1),
    (["won"], 1, 1), (1, "won", 1), ("won", 0, 1), ("out", 1, 0), ("won", -1, 1), ("out", 1, -1), ("won", FAR, 1),
    ("out", 1, FAR), ("won", True, 1), ("won", 1, True), ("out", None, 1), ("out", 1, None), ("won", "1", 1),
    ("won", 1, "1"), ("won", [1], 1), ("won", 1, [1]), ("won", 1.0, 1), ("out", 1, 1.0), ("won", {}, 1),
)


def wrong_rounds():
    return InvalidRounds, (0, 101, -1, -FAR, FAR) + NO_INTEGERS


def wrong_claims(rounds):
    most = 2 ** rounds
    claims = [("won", 1, 1), ("out", most, 1)]
    no_lists = (None, True, False, 0, 1, "", "5 won 2", b"", (), {}, {1: ("won", 1, 1)}, tuple(claims), claims[0])
    for_larger_cups = (("won", most + 1, 1), ("out", most + 1, 1), ("won", 1, rounds + 1), ("out", 1, rounds + 1))
    with_one = [rest for wrong in NO_CLAIMS + for_larger_cups
                for rest in ([wrong], [wrong, *claims], [claims[0], wrong, claims[1]], [*claims, wrong])]
    return InvalidClaims, no_lists + tuple(with_one)


def wrong_seed(rounds):
    return InvalidSeed, (0, 2 ** rounds + 1, -1, -FAR, FAR) + NO_INTEGERS


def wrong_level(rounds):
    return InvalidLevel, (-1, rounds + 1, -FAR, FAR) + NO_INTEGERS


def wrong_block(rounds, level):
    return InvalidBlock, (0, 2 ** (rounds - level) + 1, -1, -FAR, FAR) + NO_INTEGERS


def wrong_index(count):
    return InvalidIndex, (-1, count, -FAR, FAR) + NO_INTEGERS


def all_cases():
    """For each function some good arguments, and for each of them its error and wrong values."""
    for rounds, level in ((1, 0), (1, 1), (3, 0), (3, 2), (3, 3), (100, 0), (100, 64), (100, 100)):
        start = [wrong_rounds(), wrong_claims(rounds)]
        seed, most = wrong_seed(rounds), 2 ** rounds
        block = [wrong_level(rounds), wrong_block(rounds, level)]
        yield possible_ends, (rounds, [], most), start + [seed]
        yield can_meet, (rounds, [], 1, most), start + [seed, seed]
        yield count_winners, (rounds, [], level, 1), start + block
        yield nth_winner, (rounds, [], level, 1, 0), start + block + [wrong_index(2 ** level)]
        yield expected_winner, (rounds, [], level, 1), start + block
        yield upset_matches, (rounds, []), start
        yield fewest_upsets, (rounds, []), start


def replaced(good, places, values):
    return [values[at] if at in places else value for at, value in enumerate(good)]


class TestWrongArguments(CupTestCase):
    def test_the_good_arguments_are_good(self):
        for function, good, _ in all_cases():
            function(*good)

    def test_the_claims_at_the_ends_of_the_ranges_are_good(self):
        for function, good, _ in all_cases():
            rounds = good[0]
            for word, seed, number in itertools.product(("won", "out"), (1, 2 ** rounds), (1, rounds)):
                function(rounds, [(word, seed, number)], *good[2:])

    def test_each_wrong_value(self):
        for function, good, wrongs in all_cases():
            for at, (error_class, values) in enumerate(wrongs):
                for value in values:
                    self.assert_error(error_class, function, *good[:at], value, *good[at + 1:])

    def test_a_claim_that_only_fits_a_larger_cup(self):
        self.assertEqual(fewest_upsets(4, [("won", 9, 4)]), 4)
        self.assert_error(InvalidClaims, fewest_upsets, 3, [("won", 9, 3)])
        self.assert_error(InvalidClaims, fewest_upsets, 3, [("won", 8, 4)])

    def test_a_tuple_of_claims_is_no_list(self):
        for function, good, _ in all_cases():
            self.assert_error(InvalidClaims, function, good[0], (("won", 1, 1),), *good[2:])
            self.assert_error(InvalidClaims, function, good[0], (), *good[2:])

    def test_wrong_values_stay_as_they_are(self):
        wrong = [("won", 1, 1), ["out", 1, 1], None]
        for function, good, _ in all_cases():
            self.assert_error(InvalidClaims, function, good[0], wrong, *good[2:])
        self.assertEqual(wrong, [("won", 1, 1), ["out", 1, 1], None])


class TestOrder(CupTestCase):
    """The error is that of the first parameter with a wrong argument; then come the remaining conditions."""

    def test_every_choice_of_wrong_arguments(self):
        for function, good, wrongs in all_cases():
            for size in range(2, len(good) + 1):
                for places in itertools.combinations(range(len(good)), size):
                    for pick in (0, 1, -1):
                        values = [values[pick] for _, values in wrongs]
                        self.assert_error(wrongs[places[0]][0], function, *replaced(good, places, values))
                    self.assert_error(wrongs[places[0]][0], function, *replaced(good, places, [None] * len(good)))

    def test_wrong_arguments_before_inconsistent_claims(self):
        for function, good, wrongs in all_cases():
            for at, (error_class, values) in enumerate(wrongs):
                if at != 1 and error_class != InvalidIndex:
                    for value in (values[0], values[1], None, True):
                        told = [good[0], AGAINST, *good[2:]]
                        told[at] = value
                        self.assert_error(error_class, function, *told)

    def test_claims_that_do_not_fit(self):
        for function, good, _ in all_cases():
            self.assert_error(Inconsistent, function, good[0], AGAINST, *good[2:])
            self.assert_error(Inconsistent, function, good[0], [AGAINST[0]] * 128 + AGAINST, *good[2:])

    def test_a_wrong_claim_before_claims_that_do_not_fit(self):
        for function, good, _ in all_cases():
            self.assert_error(InvalidClaims, function, good[0], AGAINST + [None], *good[2:])

    def test_equal_seeds(self):
        for rounds in (1, 3, 100):
            self.assert_error(SameSeed, can_meet, rounds, [], 1, 1)
            self.assert_error(SameSeed, can_meet, rounds, [("won", 2, 1)], 2 ** rounds, 2 ** rounds)
            # Before Inconsistent, but behind the checks of all parameters.
            self.assert_error(SameSeed, can_meet, rounds, AGAINST, 2, 2)
            self.assert_error(InvalidClaims, can_meet, rounds, [None], 2, 2)
            self.assert_error(InvalidSeed, can_meet, rounds, AGAINST, 0, 0)
            self.assert_error(InvalidSeed, can_meet, rounds, AGAINST, 1, True)
            self.assert_error(InvalidRounds, can_meet, 0, AGAINST, 1, 1)

    def test_the_index_at_last(self):
        for rounds, level in ((1, 1), (3, 2), (100, 64)):
            for index in (-1, 2 ** level, FAR) + NO_INTEGERS:
                self.assert_error(Inconsistent, nth_winner, rounds, AGAINST, level, 1, index)
                self.assert_error(InvalidIndex, nth_winner, rounds, AGAINST[:1], level, 1, index)
                self.assert_error(InvalidBlock, nth_winner, rounds, AGAINST, level, 0, index)
                self.assert_error(InvalidLevel, nth_winner, rounds, AGAINST, -1, 0, index)

    def test_an_index_of_a_block_without_claims(self):
        self.assertEqual(nth_winner(3, [("won", 1, 3)], 2, 2, 3), 7)
        self.assert_error(InvalidIndex, nth_winner, 3, [("won", 1, 3)], 2, 1, 1)
        self.assert_error(InvalidIndex, nth_winner, 3, [("won", 1, 3)], 3, 1, 1)

    def test_order_by_name(self):
        self.assert_error(InvalidRounds, possible_ends, seed=0, claims=None, rounds=0)
        self.assert_error(InvalidClaims, possible_ends, seed=0, claims=None, rounds=3)
        self.assert_error(InvalidSeed, possible_ends, seed=0, claims=AGAINST, rounds=3)
        self.assert_error(InvalidSeed, can_meet, second=1, first=0, claims=AGAINST, rounds=3)
        self.assert_error(InvalidLevel, count_winners, block=0, level=4, claims=AGAINST, rounds=3)
        self.assert_error(InvalidBlock, nth_winner, index=-1, block=0, level=3, claims=AGAINST, rounds=3)
        self.assert_error(InvalidLevel, expected_winner, block=0, level=4, claims=AGAINST, rounds=3)
        self.assert_error(InvalidRounds, upset_matches, claims=None, rounds=True)
        self.assert_error(InvalidClaims, fewest_upsets, claims=True, rounds=100)


class TestEveryFunctionWasHere(unittest.TestCase):
    def test_every_function(self):
        self.assertEqual({function for function, _, _ in all_cases()}, set(ALL_FUNCTIONS))


if __name__ == "__main__":
    unittest.main()
