"""[3], [14] and [15]: the errors of wrong claims, and their order."""

import unittest

from helper import NO_INTEGERS, CupTestCase
from seedcup.claims import conflict, consistent, follows, free_matches
from seedcup.errors import Inconsistent, InvalidClaim, InvalidRounds

FAR = 10 ** 39
STAR_FUNCTIONS = (consistent, conflict, free_matches)

# Values that are no claim for any number of rounds.
NO_CLAIMS = (
    # other kinds
    None, True, False, 0, 5, "", "won", "5 won 2", b"won", [], {}, {"won": 1},
    # other lengths
    (), ("won",), ("won", 1), ("won", 1, 1, 1), ("won", 1, 1, None), (("won", 1, 1),),
    # lists in place of the tuple
    ["won", 1, 1], ["out", 1, 1], [("won", 1, 1)], [["won", 1, 1]],
    # other words
    ("win", 1, 1), ("Won", 1, 1), ("OUT", 1, 1), ("", 1, 1), ("won ", 1, 1), ("lost", 1, 1), ("wo", 1, 1),
    (b"won", 1, 1), (None, 1, 1), (True, 1, 1), (1, 1, 1), (["won"], 1, 1), (("won",), 1, 1), ({}, 1, 1),
    # another order
    (1, "won", 1), (1, 1, "won"),
    # numbers out of every range
    ("won", 0, 1), ("won", -1, 1), ("out", 1, 0), ("out", 1, -1), ("won", -FAR, 1), ("out", 1, -FAR), ("won", 1, FAR),
    ("won", 1.0, 1), ("won", 1, 1.0),
)


def wrong_claims(rounds):
    """Values that are no claim, and claims for a larger cup."""
    most = 2 ** rounds
    outside = [(word, seed, number) for word in ("won", "out")
               for seed, number in ((most + 1, 1), (1, rounds + 1), (most + 1, rounds), (most, rounds + 1),
                                    (most, 0), (0, rounds), (FAR, 1))]
    no_seeds = [(word, value, 1) for word in ("won", "out") for value in NO_INTEGERS]
    no_numbers = [(word, 1, value) for word in ("won", "out") for value in NO_INTEGERS]
    return list(NO_CLAIMS) + outside + no_seeds + no_numbers


class TestWrongClaims(CupTestCase):
    def test_the_claims_at_the_ends_of_the_ranges_are_good(self):
        for rounds in (1, 2, 3, 100):
            for word in ("won", "out"):
                for seed in (1, 2 ** rounds):
                    for number in (1, rounds):
                        claim = (word, seed, number)
                        for function in STAR_FUNCTIONS:
                            function(rounds, claim)
                        self.assertIs(follows(rounds, claim, claim), True)

    def test_each_wrong_value_alone(self):
        for rounds in (1, 3, 100):
            for wrong in wrong_claims(rounds):
                for function in STAR_FUNCTIONS + (follows,):
                    self.assert_error(InvalidClaim, function, rounds, wrong)

    def test_each_wrong_value_among_good_claims(self):
        for rounds in (1, 3, 100):
            good = ("won", 1, 1)
            for wrong in wrong_claims(rounds):
                for function in STAR_FUNCTIONS + (follows,):
                    self.assert_error(InvalidClaim, function, rounds, good, wrong)
                    self.assert_error(InvalidClaim, function, rounds, wrong, good)
                    self.assert_error(InvalidClaim, function, rounds, good, wrong, good)

    def test_a_claim_that_only_fits_a_larger_cup(self):
        for function in STAR_FUNCTIONS:
            function(4, ("won", 9, 4))
            self.assert_error(InvalidClaim, function, 3, ("won", 9, 3))
            self.assert_error(InvalidClaim, function, 3, ("won", 8, 4))

    def test_wrong_values_stay_as_they_are(self):
        wrong = ["won", 1, 1]
        for function in STAR_FUNCTIONS + (follows,):
            self.assert_error(InvalidClaim, function, 3, wrong)
        self.assertEqual(wrong, ["won", 1, 1])


class TestOrder(CupTestCase):
    """Rounds, then the claims in their order, then whether they are consistent."""

    def test_wrong_rounds_first(self):
        for rounds in (0, 101, -1, -FAR, FAR) + NO_INTEGERS:
            for function in STAR_FUNCTIONS:
                self.assert_error(InvalidRounds, function, rounds)
                self.assert_error(InvalidRounds, function, rounds, None)
                self.assert_error(InvalidRounds, function, rounds, ("won", 1, 1), ("out", 1, 1))
            self.assert_error(InvalidRounds, follows, rounds, ("won", 1, 1))
            self.assert_error(InvalidRounds, follows, rounds, None, None)
            self.assert_error(InvalidRounds, follows, claim=None, rounds=rounds)

    def test_wrong_claims_before_inconsistent_ones(self):
        against = (("won", 1, 1), ("out", 1, 1))
        for wrong in (None, True, [], ("won", 9, 1), ("won", True, 1)):
            for function in STAR_FUNCTIONS:
                self.assert_error(InvalidClaim, function, 3, *against, wrong)
                self.assert_error(InvalidClaim, function, 3, wrong, *against)
            self.assert_error(InvalidClaim, follows, 3, wrong, *against)
            self.assert_error(InvalidClaim, follows, 3, ("won", 1, 1), *against, wrong)

    def test_inconsistent_claims_last(self):
        against = (("won", 1, 1), ("out", 1, 1))
        self.assert_error(Inconsistent, free_matches, 3, *against)
        self.assert_error(Inconsistent, follows, 3, ("won", 1, 1), *against)
        self.assert_error(Inconsistent, follows, 3, ("won", 2, 1), *against)

    def test_no_error_for_inconsistent_claims_where_they_are_the_question(self):
        against = (("won", 1, 1), ("out", 1, 1))
        self.assertIs(consistent(3, *against), False)
        self.assertEqual(conflict(3, *against), (0, 1))
        self.assertIs(follows(3, *against), False)


if __name__ == "__main__":
    unittest.main()
