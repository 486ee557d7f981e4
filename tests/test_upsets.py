import itertools
import random
import unittest

from helper import (LARGE_CUPS, PLAYED, CupTestCase, block_by_rule, blocks_by_cutting, consistent_lists,
                    expected_by_halves, few_seeds_of_interest, halves_by_rule, play_expected, random_claims, upsets_of)
from seedcup.errors import Inconsistent
from seedcup.upsets import expected_winner, fewest_upsets, upset_matches

EXAMPLE = [("won", 5, 2)]


def winner_of(ends, seeds, level):
    return next(seed for seed in seeds if ends[seed] > level)


def small_cases(seed):
    for rounds, cup in PLAYED.items():
        for claims in consistent_lists(cup, seed):
            yield cup, claims


class TestExamples(unittest.TestCase):
    """The examples of section 11."""

    def test_expected_winner(self):
        self.assertEqual(expected_winner(3, [("won", 5, 2)], 3, 1), 2)

    def test_upset_matches(self):
        self.assertEqual(upset_matches(3, [("won", 5, 2)]), [(1, 4), (2, 1)])

    def test_fewest_upsets(self):
        self.assertEqual(fewest_upsets(3, [("won", 8, 3)]), 3)


class TestSmallCups(CupTestCase):
    """[18] against all results of cups of one to three rounds."""

    def test_fewest_upsets(self):
        by_number = {}
        for rounds, cup in PLAYED.items():
            numbers = [len(upsets_of(rounds, ends)) for ends in cup.results]
            by_number[rounds] = [sum(2 ** at for at, count in enumerate(numbers) if count == number)
                                 for number in range(2 ** rounds)]
        for cup, claims in small_cases(20):
            left = cup.results_of(claims)
            least = next(number for number, bits in enumerate(by_number[cup.rounds]) if bits & left)
            self.assertEqual(fewest_upsets(cup.rounds, claims), least, (cup.rounds, claims))

    def test_upset_matches(self):
        for cup, claims in small_cases(21):
            found = upset_matches(cup.rounds, claims)
            self.assertEqual(found, upsets_of(cup.rounds, play_expected(cup.rounds, claims)), (cup.rounds, claims))
            self.assertEqual(found, sorted(set(found)))
            self.assertEqual(fewest_upsets(cup.rounds, claims), len(found), (cup.rounds, claims))

    def test_expected_winner(self):
        for cup, claims in small_cases(22):
            ends = play_expected(cup.rounds, claims)
            self.assertIn(ends, cup.results)
            for level, block, seeds in cup.blocks:
                winner = expected_winner(cup.rounds, claims, level, block)
                self.assertEqual(winner, winner_of(ends, seeds, level), (cup.rounds, claims, level, block))

    def test_the_expected_result_satisfies_the_claims(self):
        for cup, claims in small_cases(23):
            at = cup.results.index(play_expected(cup.rounds, claims))
            self.assertTrue(cup.results_of(claims) >> at & 1, (cup.rounds, claims))

    def test_claims_twice_and_in_another_order(self):
        chance = random.Random(24)
        for cup, claims in itertools.islice(small_cases(24), 0, None, 3):
            again = claims + chance.sample(claims, len(claims) // 2)
            chance.shuffle(again)
            self.assertEqual(upset_matches(cup.rounds, again), upset_matches(cup.rounds, claims))
            self.assertEqual(fewest_upsets(cup.rounds, again), fewest_upsets(cup.rounds, claims))
            for level, block, _ in cup.blocks:
                self.assertEqual(expected_winner(cup.rounds, again, level, block),
                                 expected_winner(cup.rounds, claims, level, block))

    def test_claims_that_do_not_fit(self):
        for rounds, cup in PLAYED.items():
            for pair in itertools.product(cup.claims, repeat=2):
                if cup.results_of(pair) == 0:
                    self.assert_error(Inconsistent, expected_winner, rounds, list(pair), 0, 1)
                    self.assert_error(Inconsistent, upset_matches, rounds, list(pair))
                    self.assert_error(Inconsistent, fewest_upsets, rounds, list(pair))


class TestPlainCases(unittest.TestCase):
    """[18] on some cases that can be checked by thinking."""

    def test_no_claims(self):
        for rounds in (1, 2, 3, 64, 100):
            self.assertEqual(upset_matches(rounds, []), [])
            self.assertEqual(fewest_upsets(rounds, []), 0)
            for level in (0, 1, rounds // 2, rounds):
                for block in (1, 2, 2 ** (rounds - level)):
                    if block <= 2 ** (rounds - level):
                        self.assertEqual(expected_winner(rounds, [], level, block), block)

    def test_claims_that_are_no_surprise(self):
        claims = [("won", 1, 3), ("out", 8, 1), ("out", 2, 3)]
        self.assertEqual(upset_matches(3, claims), [])
        self.assertEqual(fewest_upsets(3, claims), 0)
        self.assertEqual(expected_winner(3, claims, 3, 1), 1)

    def test_a_decided_match_is_no_upset_if_the_better_one_wins_it(self):
        # 1 and 4 must lose before; 8 then loses to 5 as expected.
        claims = [("out", 1, 1), ("out", 4, 1), ("out", 8, 2)]
        self.assertEqual(upset_matches(3, claims), [(1, 1), (1, 4)])
        self.assertEqual(expected_winner(3, claims, 2, 1), 5)

    def test_an_upset_by_a_seed_without_a_claim(self):
        claims = [("out", 1, 2), ("out", 2, 3)]
        self.assertEqual(upset_matches(3, claims), [(2, 1), (3, 1)])
        self.assertEqual(expected_winner(3, claims, 2, 1), 4)
        self.assertEqual(expected_winner(3, claims, 3, 1), 4)

    def test_blocks_of_level_zero(self):
        for seed in range(1, 9):
            self.assertEqual(expected_winner(3, [("out", 1, 1), ("won", 7, 3)], 0, seed), seed)

    def test_blocks_that_are_not_best_first(self):
        claims = [("won", 7, 1), ("won", 6, 2)]
        self.assertEqual(expected_winner(3, claims, 1, 2), 7)
        self.assertEqual(expected_winner(3, claims, 1, 3), 6)
        self.assertEqual(expected_winner(3, claims, 2, 2), 6)
        self.assertEqual(upset_matches(3, claims), [(1, 2), (1, 3)])


def large_cases():
    for rounds in (4, 9, 17) + LARGE_CUPS:
        for number, size in enumerate((1, 2, 5, 20, 130)):
            chance = random.Random(rounds * 10 + number)
            yield rounds, random_claims(rounds, size, chance), chance


class TestLargeCups(unittest.TestCase):
    """[18] on cups that are too large to be played."""

    def test_there_are_long_lists(self):
        sizes = [len(claims) for rounds, claims, _ in large_cases() if rounds >= 62]
        self.assertGreater(sizes.count(130), 3, sizes)

    def test_upsets(self):
        for rounds, claims, _ in large_cases():
            upsets = []
            winner = expected_by_halves(rounds, claims, rounds, 1, upsets)
            self.assertEqual(upset_matches(rounds, claims), sorted(upsets), (rounds, claims))
            self.assertEqual(fewest_upsets(rounds, claims), len(upsets), (rounds, claims))
            self.assertEqual(expected_winner(rounds, claims, rounds, 1), winner, (rounds, claims))

    def test_expected_winner(self):
        for rounds, claims, chance in large_cases():
            for level in sorted({0, 1, 2, rounds // 2, rounds - 1, chance.randint(1, rounds)}):
                block = block_by_rule(rounds, level, chance.choice(claims)[1])
                inside = [claim for claim in claims if block_by_rule(rounds, level, claim[1]) == block]
                expected = expected_by_halves(rounds, inside, level, block, [])
                self.assertEqual(expected_winner(rounds, claims, level, block), expected, (rounds, claims, level))

    def test_cups_of_nine_rounds_are_played(self):
        chance = random.Random(9)
        for _ in range(20):
            claims = random_claims(9, chance.randint(1, 40), chance)
            ends = play_expected(9, claims)
            self.assertEqual(upset_matches(9, claims), upsets_of(9, ends), claims)
            for level in range(10):
                for seeds in blocks_by_cutting(9, level)[::5]:
                    winner = expected_winner(9, claims, level, min(seeds))
                    self.assertEqual(winner, winner_of(ends, seeds, level), (claims, level, min(seeds)))

    def test_the_worst_seed_wins(self):
        for rounds in LARGE_CUPS:
            claims = [("won", 2 ** rounds, rounds)]
            # It meets the best seed of another block in each round.
            self.assertEqual(upset_matches(rounds, claims), [(stage, 1) for stage in range(1, rounds + 1)])
            self.assertEqual(fewest_upsets(rounds, claims), rounds)
            self.assertEqual(expected_winner(rounds, claims, rounds, 1), 2 ** rounds)

    def test_the_best_seed_is_out(self):
        for rounds in LARGE_CUPS:
            for number in (1, 2, rounds // 2, rounds):
                claims = [("out", 1, number)]
                self.assertEqual(upset_matches(rounds, claims), [(number, 1)])
                # In its block of that level another one wins: the worse half's best seed.
                self.assertEqual(expected_winner(rounds, claims, number, 1), 2 ** (rounds - number + 1))

    def test_all_of_the_best_are_out(self):
        claims = [("out", seed, 1) for seed in range(1, 131)]
        self.assertEqual(upset_matches(100, claims), [(1, seed) for seed in range(1, 131)])
        self.assertEqual(expected_winner(100, claims, 100, 1), 131)

    def test_a_seed_alone(self):
        for rounds in LARGE_CUPS:
            for seed in few_seeds_of_interest(rounds):
                claims = [("won", seed, rounds)]
                self.assertEqual(expected_winner(rounds, claims, rounds, 1), seed)
                better = [stage for stage in range(1, rounds + 1)
                          if sum(halves_by_rule(rounds, stage, block_by_rule(rounds, stage, seed)))
                          - block_by_rule(rounds, stage - 1, seed) < seed]
                self.assertEqual([stage for stage, _ in upset_matches(rounds, claims)], better)


class TestArguments(unittest.TestCase):
    """[1] and [2]: arguments by position and by name, new lists, and that arguments stay as they are."""

    def test_by_name(self):
        self.assertEqual(expected_winner(rounds=3, claims=EXAMPLE, level=3, block=1), 2)
        self.assertEqual(expected_winner(block=1, level=3, claims=EXAMPLE, rounds=3), 2)
        self.assertEqual(upset_matches(rounds=3, claims=EXAMPLE), [(1, 4), (2, 1)])
        self.assertEqual(upset_matches(claims=EXAMPLE, rounds=3), [(1, 4), (2, 1)])
        self.assertEqual(fewest_upsets(rounds=3, claims=EXAMPLE), 2)
        self.assertEqual(fewest_upsets(claims=EXAMPLE, rounds=3), 2)

    def test_by_position_and_name(self):
        self.assertEqual(expected_winner(3, EXAMPLE, block=1, level=2), 5)
        self.assertEqual(upset_matches(3, claims=EXAMPLE), [(1, 4), (2, 1)])
        self.assertEqual(fewest_upsets(3, claims=EXAMPLE), 2)

    def test_the_claims_stay_as_they_are(self):
        claims = [("out", 1, 2), ("won", 3, 1), ("out", 1, 2)]
        expected_winner(3, claims, 3, 1)
        upset_matches(3, claims)
        fewest_upsets(3, claims)
        self.assertEqual(claims, [("out", 1, 2), ("won", 3, 1), ("out", 1, 2)])

    def test_a_returned_list_belongs_to_the_caller(self):
        first, second = upset_matches(3, EXAMPLE), upset_matches(3, EXAMPLE)
        self.assertIsNot(first, second)
        first.clear()
        self.assertEqual(second, [(1, 4), (2, 1)])
        self.assertEqual(upset_matches(3, EXAMPLE), [(1, 4), (2, 1)])
        self.assertIsNot(upset_matches(3, []), upset_matches(3, []))

    def test_changed_claims_are_other_claims(self):
        claims = [("won", 5, 2)]
        self.assertEqual(fewest_upsets(3, claims), 2)
        claims.append(("out", 2, 1))
        self.assertEqual(fewest_upsets(3, claims), 3)
        self.assertEqual(expected_winner(3, claims, 3, 1), 3)

    def test_kinds_of_results(self):
        self.assertIs(expected_winner(3, [], 0, 8).__class__, int)
        self.assertIs(fewest_upsets(3, []).__class__, int)
        found = upset_matches(3, EXAMPLE)
        self.assertIs(found.__class__, list)
        self.assertEqual({match.__class__ for match in found}, {tuple})
        self.assertEqual({number.__class__ for match in found for number in match}, {int})


if __name__ == "__main__":
    unittest.main()
