import itertools
import random
import unittest

from helper import (LARGE_CUPS, PLAYED, PLAYED_CUPS, CupTestCase, all_claims, few_seeds_of_interest, fit,
                    least_level_by_rule, loses, satisfied, wins)
from seedcup.claims import conflict, consistent, follows, free_matches
from seedcup.errors import Inconsistent


def few_claims():
    """Cups with lists of claims: no claim, one, all pairs, and three where there are not too many."""
    for rounds, cup in PLAYED.items():
        for size in (0, 1, 2, 3) if rounds < 3 else (0, 1, 2):
            for claims in itertools.product(cup.claims, repeat=size):
                yield cup, claims


def many_claims():
    """Cups with longer lists of claims: three to nine, in any order, some of them equal.

    The claims of each second list are true in one result, so that they are consistent.
    """
    chance = random.Random(15)
    for rounds, cup in PLAYED.items():
        for number in range(1500):
            ends = chance.choice(cup.results)
            allowed = [claim for claim in cup.claims if number % 2 == 0 or satisfied(claim, ends)]
            yield cup, tuple(chance.choices(allowed, k=chance.randint(3, 9)))


class TestExamples(unittest.TestCase):
    """The examples of section 9."""

    def test_consistent(self):
        self.assertIs(consistent(3, ("won", 1, 1), ("won", 5, 2)), True)

    def test_conflict(self):
        self.assertEqual(conflict(3, ("won", 1, 2), ("won", 5, 2)), (0, 1))

    def test_free_matches(self):
        self.assertEqual(free_matches(3, ("won", 5, 2)), 5)

    def test_follows(self):
        self.assertIs(follows(3, ("out", 4, 1), ("won", 5, 1)), True)


class TestSmallCups(CupTestCase):
    """[14] and [15] against all results of cups of 1 to 3 rounds."""

    def test_the_results_are_all(self):
        for rounds in PLAYED_CUPS:
            self.assertEqual(PLAYED[rounds].everything, 2 ** 2 ** (2 ** rounds - 1) - 1)

    def test_few_claims(self):
        for cup, claims in few_claims():
            self.check_claims(cup, claims)

    def test_many_claims(self):
        sizes = {True: 0, False: 0}
        for cup, claims in many_claims():
            self.check_claims(cup, claims)
            sizes[consistent(cup.rounds, *claims)] += 1
        # Both kinds of lists were there, and many of them.
        self.assertTrue(min(sizes.values()) > 1000, sizes)

    def check_claims(self, cup, claims):
        left = cup.results_of(claims)
        self.assertIs(consistent(cup.rounds, *claims), left != 0, (cup.rounds, claims))
        self.assertEqual(conflict(cup.rounds, *claims), cup.first_conflict(claims), (cup.rounds, claims))
        if left == 0:
            self.assert_error(Inconsistent, free_matches, cup.rounds, *claims)
        else:
            self.assertEqual(2 ** free_matches(cup.rounds, *claims), left.bit_count(), (cup.rounds, claims))

    def test_follows_from_one_claim_or_none(self):
        for rounds, cup in PLAYED.items():
            for claim in cup.claims:
                self.check_follows(cup, claim, ())
                for told in cup.claims:
                    self.check_follows(cup, claim, (told,))

    def test_follows_from_two_claims(self):
        for rounds in (1, 2):
            cup = PLAYED[rounds]
            for claim, first, second in itertools.product(cup.claims, repeat=3):
                self.check_follows(cup, claim, (first, second))

    def test_follows_from_many_claims(self):
        truths = {True: 0, False: 0}
        for cup, claims in many_claims():
            claim = claims[0]
            self.check_follows(cup, claim, claims[1:])
            if consistent(cup.rounds, *claims[1:]):
                truths[follows(cup.rounds, claim, *claims[1:])] += 1
        self.assertTrue(min(truths.values()) > 100, truths)

    def check_follows(self, cup, claim, claims):
        left = cup.results_of(claims)
        if left == 0:
            self.assert_error(Inconsistent, follows, cup.rounds, claim, *claims)
        else:
            expected = left & cup.bits[claim] == left
            self.assertIs(follows(cup.rounds, claim, *claims), expected, (cup.rounds, claim, claims))


class TestPlainCases(CupTestCase):
    """[14] and [15] on some cases that can be checked by thinking."""

    def test_no_claim(self):
        for rounds in (1, 2, 3, 100):
            self.assertIs(consistent(rounds), True)
            self.assertIsNone(conflict(rounds))
            self.assertEqual(free_matches(rounds), 2 ** rounds - 1)
            self.assertIs(follows(rounds, ("won", 1, 1)), False)

    def test_one_claim(self):
        for claim in all_claims(3):
            self.assertIs(consistent(3, claim), True)
            self.assertIsNone(conflict(3, claim))
            self.assertEqual(free_matches(3, claim), 7 - claim[2])
            self.assertIs(follows(3, claim, claim), True)

    def test_equal_claims(self):
        for claim in (("won", 5, 2), ("out", 5, 2), ("won", 1, 3), ("out", 8, 1)):
            self.assertIs(consistent(3, claim, claim, claim), True)
            self.assertIsNone(conflict(3, claim, claim, claim))
            self.assertEqual(free_matches(3, claim, claim), free_matches(3, claim))

    def test_two_claims_about_one_seed(self):
        self.assertIs(consistent(3, ("won", 5, 1), ("won", 5, 3)), True)
        self.assertEqual(free_matches(3, ("won", 5, 1), ("won", 5, 3)), 4)
        self.assertIs(consistent(3, ("won", 5, 1), ("out", 5, 2)), True)
        self.assertEqual(free_matches(3, ("won", 5, 1), ("out", 5, 2)), 5)
        self.assertEqual(conflict(3, ("won", 5, 2), ("out", 5, 2)), (0, 1))
        self.assertEqual(conflict(3, ("out", 5, 1), ("out", 5, 2)), (0, 1))

    def test_two_losers_of_one_match(self):
        self.assertEqual(conflict(3, ("out", 1, 1), ("out", 8, 1)), (0, 1))
        self.assertEqual(conflict(3, ("out", 1, 3), ("out", 2, 3)), (0, 1))
        self.assertIsNone(conflict(3, ("out", 1, 2), ("out", 2, 2)))

    def test_the_smallest_j_and_for_it_the_smallest_i(self):
        claims = [("won", 2, 1), ("won", 1, 2), ("won", 1, 1), ("out", 1, 1), ("out", 2, 1)]
        self.assertEqual(conflict(3, *claims), (1, 3))
        self.assertEqual(conflict(3, *claims[:3], claims[4], claims[3]), (0, 3))
        self.assertEqual(conflict(3, claims[0], claims[2], claims[3]), (1, 2))
        self.assertEqual(conflict(3, ("won", 1, 3), ("won", 7, 1), ("won", 2, 3)), (0, 2))

    def test_what_follows_from_several_claims_together(self):
        claims = (("won", 1, 1), ("won", 2, 1), ("out", 2, 2))
        self.assertIs(follows(2, ("won", 1, 2), *claims), True)
        self.assertIs(follows(2, ("won", 1, 2), *claims[1:]), False)
        self.assertIs(follows(2, ("out", 1, 2), *claims), False)
        self.assertIs(follows(2, ("out", 3, 1), *claims), True)

    def test_the_claim_that_follows_need_not_fit(self):
        self.assertIs(follows(3, ("won", 1, 3), ("out", 1, 1)), False)
        self.assert_error(Inconsistent, follows, 3, ("won", 1, 1), ("won", 1, 1), ("won", 8, 1))
        self.assert_error(Inconsistent, follows, 3, ("won", 2, 1), ("won", 1, 1), ("out", 1, 1))


class TestLargeCups(CupTestCase):
    """[14] and [15] by pairs of claims about cups that are too large to be played."""

    def pairs(self):
        for rounds in LARGE_CUPS:
            seeds = few_seeds_of_interest(rounds)[::2]
            numbers = (1, 2, 3, rounds // 2, rounds - 2, rounds - 1, rounds)
            claims = [(word, seed, number) for seed in seeds for word in ("won", "out") for number in numbers]
            chance = random.Random(rounds)
            for _ in range(1500):
                yield rounds, chance.choice(claims), chance.choice(claims)
            for claim in claims[::5]:
                for other in self.neighbours(rounds, claim):
                    yield rounds, claim, other

    def neighbours(self, rounds, claim):
        """Claims about seeds that may meet the seed of a claim in its last round or just beside it."""
        seed = claim[1]
        for stage in {1, claim[2], min(claim[2] + 1, rounds), max(claim[2] - 1, 1)}:
            half = 2 ** (rounds - stage + 1)
            # By rule [6] the better seeds with this remainder share the half of the seed.
            own = min(seed % (2 * half) or 2 * half, (1 - seed) % (2 * half) or 2 * half)
            for number in {1, stage, max(stage - 1, 1), min(stage + 1, rounds)}:
                for other in (seed, half + 1 - own):
                    yield "won", other, number
                    yield "out", other, number

    def free(self, rounds, first, second):
        """The open matches: those of the two seeds are the same from their meeting on."""
        met = max(1, least_level_by_rule(rounds, first[1], second[1]))
        common = max(0, min(first[2], second[2]) - met + 1)
        return 2 ** rounds - 1 - first[2] - second[2] + common

    def implied(self, rounds, claim, told):
        """Whether one claim follows from another one."""
        if claim[1] == told[1]:
            if claim[0] == "won":
                return wins(told) >= claim[2]
            return claim == told
        # Of another seed only what its opponent of the first round did is known.
        if least_level_by_rule(rounds, claim[1], told[1]) > 1 or claim[2] > 1:
            return False
        if claim[0] == "out":
            return wins(told) >= 1
        return loses(told) == 1

    def test_pairs(self):
        seen = {}
        for rounds, first, second in self.pairs():
            told = (rounds, first, second)
            fits = fit(rounds, first, second)
            self.assertIs(consistent(rounds, first, second), fits, told)
            self.assertEqual(conflict(rounds, first, second), None if fits else (0, 1), told)
            if fits:
                self.assertEqual(free_matches(rounds, first, second), self.free(rounds, first, second), told)
            else:
                self.assert_error(Inconsistent, free_matches, rounds, first, second)
            implied = self.implied(rounds, first, second)
            self.assertIs(follows(rounds, first, second), implied, told)
            key = (fits, implied, first[1] == second[1])
            seen[key] = seen.get(key, 0) + 1
        # Every kind of pair was there: what follows also fits.
        kinds = {(True, True), (True, False), (False, False)}
        self.assertEqual(set(seen), {(*kind, same) for kind in kinds for same in (True, False)})

    def test_cup_of_hundred_rounds(self):
        most = 2 ** 100
        self.assertIs(consistent(100, ("won", most, 100), ("out", 1, 1)), True)
        self.assertIs(consistent(100, ("won", most, 100), ("out", 2, 100)), True)
        self.assertEqual(conflict(100, ("won", most, 100), ("won", 2, 99), ("won", 2, 100)), (0, 2))
        self.assertEqual(free_matches(100, ("won", most, 100), ("won", 2, 99)), most - 1 - 199)
        self.assertEqual(free_matches(100, ("won", most, 100), ("out", 2, 100)), most - 1 - 199)
        self.assertIs(follows(100, ("out", 1, 1), ("won", most, 100)), True)
        self.assertIs(follows(100, ("out", 2, 100), ("won", most, 100)), False)
        self.assertIs(follows(100, ("out", 2, 100), ("won", most, 100), ("won", 2, 99)), True)


class TestFortyClaims(CupTestCase):
    """[2]: as many claims at once as the document allows."""

    def test_forty_winners_of_different_blocks(self):
        claims = [("won", seed, 94) for seed in range(1, 41)]
        self.assertIs(consistent(100, *claims), True)
        self.assertIsNone(conflict(100, *claims))
        self.assertEqual(free_matches(100, *claims), 2 ** 100 - 1 - 40 * 94)
        self.assertIs(follows(100, claims[39], *claims[1:], claims[0]), True)
        self.assertIs(follows(100, claims[39], *claims[:39]), False)

    def test_the_last_two_of_forty_do_not_fit(self):
        # The blocks of level 96 are 16, dealt forwards and backwards: the
        # seeds 16 and 17 share one.
        claims = [("won", 16, 1)] * 37 + [("won", 1, 96), ("won", 16, 96), ("won", 17, 96)]
        self.assertIs(consistent(100, *claims), False)
        self.assertEqual(conflict(100, *claims), (38, 39))
        self.assertIs(follows(100, ("won", 17, 96), *claims[:39]), False)
        self.assert_error(Inconsistent, free_matches, 100, *claims)
        self.assert_error(Inconsistent, follows, 100, ("won", 1, 1), *claims)

    def test_forty_equal_claims(self):
        claims = [("out", 2 ** 100, 100)] * 40
        self.assertIs(consistent(100, *claims), True)
        self.assertIsNone(conflict(100, *claims))
        self.assertEqual(free_matches(100, *claims), 2 ** 100 - 101)
        self.assertIs(follows(100, ("out", 1, 1), *claims), True)

    def test_forty_claims_about_one_seed(self):
        claims = [("won", 7, number) for number in range(39, 0, -1)]
        self.assertEqual(free_matches(100, *claims, ("out", 7, 40)), 2 ** 100 - 1 - 40)
        self.assertEqual(conflict(100, *claims, ("out", 7, 39)), (0, 39))
        self.assertEqual(conflict(100, *claims, ("out", 7, 1)), (0, 39))
        self.assertEqual(conflict(100, *reversed(claims), ("out", 7, 5)), (4, 39))


class TestArguments(unittest.TestCase):
    """[1] and [2]: arguments by position and by name, and that they stay as they are."""

    def test_by_name(self):
        self.assertIs(consistent(rounds=3), True)
        self.assertIsNone(conflict(rounds=3))
        self.assertEqual(free_matches(rounds=3), 7)
        self.assertIs(follows(rounds=3, claim=("won", 1, 1)), False)
        self.assertIs(follows(claim=("won", 1, 1), rounds=3), False)

    def test_by_position_and_name(self):
        self.assertIs(follows(3, claim=("won", 1, 1)), False)

    def test_a_list_of_claims_stays_as_it_is(self):
        claims = [("won", 5, 2), ("out", 4, 1), ("won", 5, 2)]
        consistent(3, *claims)
        conflict(3, *claims)
        free_matches(3, *claims)
        follows(3, claims[0], *claims)
        self.assertEqual(claims, [("won", 5, 2), ("out", 4, 1), ("won", 5, 2)])

    def test_kinds_of_results(self):
        found = conflict(3, ("won", 1, 2), ("won", 5, 2))
        self.assertIs(found.__class__, tuple)
        self.assertEqual([at.__class__ for at in found], [int, int])
        self.assertIs(free_matches(3, ("won", 5, 2)).__class__, int)

    def test_calls_do_not_influence_each_other(self):
        for _ in range(2):
            self.assertIs(consistent(3, ("won", 1, 1)), True)
            self.assertIs(consistent(3, ("won", 8, 1)), True)
            self.assertEqual(free_matches(3, ("won", 8, 1)), 6)
            self.assertEqual(free_matches(4, ("won", 8, 1)), 14)


if __name__ == "__main__":
    unittest.main()
