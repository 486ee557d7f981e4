"""The functions of the modules agree with each other, and with a cup that holds the same claims."""

import random
import unittest

from helper import (LARGE_CUPS, PLAYED, CupTestCase, all_claims, consistent_lists, few_seeds_of_interest,
                    random_claims, random_ends, satisfied, written_result)
from seedcup.blocks import block_of, bracket, member_index, nth_member, place_of
from seedcup.byes import count_matches, count_opponents, first_match
from seedcup.chances import can_meet, count_winners, nth_winner, possible_ends
from seedcup.claims import conflict, consistent, follows, free_matches
from seedcup.cup import Cup
from seedcup.draws import is_standard, nth_draw, rank_draw, why_not_standard
from seedcup.errors import Inconsistent
from seedcup.kinds import NamedSeriesCup, SeriesCup
from seedcup.meetings import meeting_round, share_block
from seedcup.opponents import expected_path, nth_opponent, opponents
from seedcup.results import is_result, nth_result, rank_result, satisfies
from seedcup.snakes import nth_in_group, snake_group
from seedcup.texts import format_claims, format_draw, parse_claims, parse_draw
from seedcup.upsets import expected_winner, fewest_upsets, upset_matches


def consistent_cases():
    """Numbers of rounds with claims that fit: small cups, and large ones with up to 40 claims."""
    for rounds, cup in PLAYED.items():
        for number, claims in enumerate(consistent_lists(cup, 30, 200)):
            if rounds < 3 or number % 5 == 0:
                yield rounds, claims
    for rounds in (4, 5, 6, 9) + LARGE_CUPS:
        for number, size in enumerate((1, 3, 12, 40)):
            yield rounds, random_claims(rounds, size, random.Random(rounds * 10 + number))


def any_cases():
    """Numbers of rounds with claims that may fit or not."""
    chance = random.Random(31)
    for rounds in (1, 2, 3, 4):
        claims = all_claims(rounds)
        for _ in range(400):
            yield rounds, chance.choices(claims, k=chance.randint(0, 6))
    for rounds in LARGE_CUPS:
        for _ in range(40):
            claims = random_claims(rounds, 3, chance) + random_claims(rounds, 3, chance)
            yield rounds, chance.sample(claims, len(claims))


def seeds_of(rounds, claims):
    if rounds < 4:
        return list(range(1, 2 ** rounds + 1))
    claimed = [claim[1] for claim in claims[:6]]
    return sorted({1, 2, 2 ** rounds, *claimed, *few_seeds_of_interest(rounds)[::4]})


def cup_with(rounds, claims):
    cup = Cup(rounds)
    cup.record(*claims)
    return cup


class TestConsistency(CupTestCase):
    def test_consistent_conflict_and_record(self):
        seen = {True: 0, False: 0}
        for rounds, claims in any_cases():
            fits = consistent(rounds, *claims)
            seen[fits] += 1
            found = conflict(rounds, *claims)
            self.assertIs(found is None, fits)
            cup = Cup(rounds)
            if fits:
                cup.record(*claims)
                self.assertEqual(cup.claimed, tuple(claims))
                self.assertEqual(cup.free_now, free_matches(rounds, *claims))
            else:
                i, j = found
                self.assertIs(consistent(rounds, claims[i], claims[j]), False)
                self.assertIs(consistent(rounds, *claims[:j]), True)
                self.check_inconsistent(cup, rounds, claims, j)
        self.assertTrue(min(seen.values()) > 200, seen)

    def check_inconsistent(self, cup, rounds, claims, j):
        """One after the other, the claims fit until the second one of the conflict."""
        self.assert_error(Inconsistent, cup.record, *claims)
        for claim in claims[:j]:
            cup.record(claim)
        self.assert_error(Inconsistent, cup.record, claims[j])
        self.assertEqual(len(cup), j)
        self.assert_error(Inconsistent, free_matches, rounds, *claims)
        self.assert_error(Inconsistent, upset_matches, rounds, claims)
        self.assert_error(Inconsistent, possible_ends, rounds, claims, 1)
        self.assert_error(Inconsistent, Cup.read, f"{rounds} | {format_claims(claims)}")

    def test_one_call_or_many(self):
        for rounds, claims in consistent_cases():
            cup = Cup(rounds)
            for claim in claims:
                cup.record(claim)
            self.assertEqual(cup.claimed, tuple(claims))
            self.assertEqual(cup.free_now, free_matches(rounds, *claims))
            for count in range(len(claims) - 1, -1, -1):
                self.assertEqual(cup.undo(), 1)
                self.assertEqual(cup.free_now, free_matches(rounds, *claims[:count]))

    def test_what_follows_takes_no_free_match(self):
        for rounds, claims in consistent_cases():
            cup = cup_with(rounds, claims[1:])
            before = cup.free_now
            followed = follows(rounds, claims[0], *claims[1:]) if claims else None
            if claims:
                cup.record(claims[0])
                self.assertIs(cup.free_now == before, followed, (rounds, claims))


class TestExpectedResult(CupTestCase):
    def test_favourite(self):
        for rounds, claims in consistent_cases():
            cup = cup_with(rounds, claims)
            self.assertEqual(cup.favourite, expected_winner(rounds, claims, rounds, 1))
            self.assertEqual(list(cup.journey(cup.favourite))[-1][::2], (rounds, True))

    def test_journeys(self):
        for rounds, claims in consistent_cases():
            cup = cup_with(rounds, claims)
            upsets = upset_matches(rounds, claims)
            self.assertEqual(fewest_upsets(rounds, claims), len(upsets))
            for seed in seeds_of(rounds, claims):
                self.check_journey(cup, rounds, claims, upsets, seed)

    def check_journey(self, cup, rounds, claims, upsets, seed):
        journey = list(cup.journey(seed))
        told = (rounds, claims, seed)
        # Of a long journey the beginning, the end and some matches in between.
        for stage, opponent, won in journey if len(journey) < 10 else journey[:3] + journey[3:-2:9] + journey[-2:]:
            self.assertEqual(meeting_round(rounds, seed, opponent), stage, told)
            self.assertIs(can_meet(rounds, claims, seed, opponent), True, told)
            block = block_of(rounds, stage, seed)
            self.assertEqual(expected_winner(rounds, claims, stage, block), seed if won else opponent, told)
            self.assertIs((stage, block) in upsets, won == (seed > opponent), told)
            if stage < 8:
                self.assertIn(opponent, list(opponents(rounds, seed, stage)))
            index = member_index(rounds, stage - 1, opponent)
            self.assertEqual(nth_opponent(rounds, seed, stage, index), opponent, told)
        end = journey[-1][0] if not journey[-1][2] else rounds + 1
        self.assertTrue(any(low <= end <= high for low, high in possible_ends(rounds, claims, seed)), told)

    def test_without_claims_the_favourite_meets_its_expected_path(self):
        for rounds in (1, 2, 3, 9) + LARGE_CUPS:
            self.assertEqual([told[1] for told in Cup(rounds).journey(1)], expected_path(rounds, 1))

    def test_the_expected_result_as_a_list(self):
        for rounds, claims in consistent_cases():
            if rounds <= 6:
                result = [expected_winner(rounds, claims, stage, block) for stage in range(1, rounds + 1)
                          for block in range(1, 2 ** (rounds - stage) + 1)]
                self.assertIs(is_result(rounds, result), True)
                self.assertIs(satisfies(rounds, result, *claims), True)
                self.assertEqual(rank_result(rounds, result).bit_count(), fewest_upsets(rounds, claims))
                self.assertEqual(nth_result(rounds, rank_result(rounds, result)), result)


class TestChances(CupTestCase):
    def test_ends_and_claims(self):
        for rounds, claims in consistent_cases():
            for seed in seeds_of(rounds, claims):
                ends = [end for low, high in possible_ends(rounds, claims, seed) for end in range(low, high + 1)]
                for stage in sorted({1, 2, rounds // 2 or 1, rounds}):
                    if stage <= rounds:
                        self.assertIs(consistent(rounds, *claims, ("out", seed, stage)), stage in ends)
                        self.assertIs(consistent(rounds, *claims, ("won", seed, stage)), ends[-1] > stage)
                        self.assertIs(follows(rounds, ("won", seed, stage), *claims), ends[0] > stage)
                        self.assertIs(follows(rounds, ("out", seed, stage), *claims), ends == [stage])

    def test_winners_and_claims(self):
        for rounds, claims in consistent_cases():
            for level in sorted({1, rounds // 2 or 1, rounds}):
                block = block_of(rounds, level, claims[0][1]) if claims else 1
                count = count_winners(rounds, claims, level, block)
                for index in sorted({0, count // 2, count - 1}):
                    seed = nth_winner(rounds, claims, level, block, index)
                    self.assertEqual(block_of(rounds, level, seed), block)
                    self.assertIs(consistent(rounds, *claims, ("won", seed, level)), True)
                self.assertEqual(count == 1, follows(rounds, ("won", seed, level), *claims))

    def test_meetings_and_claims(self):
        for rounds, claims in consistent_cases():
            seeds = seeds_of(rounds, claims)
            for first, second in zip(seeds, seeds[1:]):
                before = meeting_round(rounds, first, second) - 1
                both = [("won", seed, before) for seed in (first, second)] if before else []
                self.assertIs(can_meet(rounds, claims, first, second), consistent(rounds, *claims, *both))

    def test_chances_without_claims(self):
        for rounds in (1, 2, 3, 64, 100):
            for level in sorted({0, 1, rounds // 2, rounds}):
                for block in sorted({1, 2 ** (rounds - level)}):
                    self.assertEqual(count_winners(rounds, [], level, block), 2 ** level)
                    for index in sorted({0, 2 ** level // 3, 2 ** level - 1}):
                        self.assertEqual(nth_winner(rounds, [], level, block, index),
                                         nth_member(rounds, level, block, index))


class TestResults(CupTestCase):
    def test_results_that_satisfy_claims(self):
        chance = random.Random(32)
        for rounds in (1, 2, 3, 4, 5, 6):
            for _ in range(20):
                ends = random_ends(rounds, chance)
                result = written_result(rounds, ends)
                true = [claim for claim in all_claims(rounds) if satisfied(claim, ends)]
                claims = chance.choices(true, k=6)
                self.assertIs(satisfies(rounds, result, *claims), True)
                self.assertIs(consistent(rounds, *claims), True)
                self.assertLessEqual(fewest_upsets(rounds, claims), rank_result(rounds, result).bit_count())
                self.assertEqual(free_matches(rounds, *true), 0)
                self.assertEqual(cup_with(rounds, claims).undo(), 6)
                for seed, end in ends.items():
                    self.assertTrue(any(low <= end <= high for low, high in possible_ends(rounds, claims, seed)))


class TestTexts(CupTestCase):
    def test_a_cup_from_the_text_of_its_claims(self):
        for rounds, claims in consistent_cases():
            cup = cup_with(rounds, claims)
            text = format_claims(list(cup.claimed))
            self.assertEqual(parse_claims(text), claims)
            for kind in (Cup, SeriesCup, NamedSeriesCup):
                again = kind.read(f"{rounds} | {text}" if claims else str(rounds))
                self.assertEqual(again.claimed, cup.claimed)
                self.assertEqual((again.free_now, again.favourite), (cup.free_now, cup.favourite))
                self.assertEqual(again.told()[:2], cup.told())
            for seed in seeds_of(rounds, claims)[:3]:
                self.assertEqual(list(again.journey(seed)), list(cup.journey(seed)))

    def test_claims_that_fit_a_cup(self):
        for rounds, claims in any_cases():
            self.assertTrue(all(Cup.fits(rounds, claim) for claim in parse_claims(format_claims(claims))))

    def test_draws(self):
        chance = random.Random(33)
        for rounds in range(1, 8):
            for _ in range(10):
                draw = nth_draw(rounds, chance.randrange(2 ** (2 ** rounds - 1)))
                again = parse_draw(format_draw(draw))
                self.assertEqual(again, draw)
                self.assertIs(is_standard(again), True)
                self.assertEqual(nth_draw(rounds, rank_draw(again)), draw)


class TestBracket(CupTestCase):
    def test_draws_and_the_bracket(self):
        for rounds in range(1, 8):
            draw = list(bracket(rounds))
            self.assertIsNone(why_not_standard(draw))
            for index in (0, 2 ** (2 ** rounds - 1) - 1):
                other = nth_draw(rounds, index)
                places = [place_of(rounds, seed) for seed in other]
                self.assertEqual(sorted(places), list(range(2 ** rounds)))
                for level in range(rounds + 1):
                    for start in range(0, 2 ** rounds, 2 ** level):
                        self.assertIs(share_block(rounds, level, *other[start:start + 2 ** level][:40]), True)

    def test_blocks_are_the_groups_of_a_snake_draw(self):
        for rounds in (1, 2, 3, 64, 100):
            for level in sorted({0, 1, rounds // 2, rounds}):
                groups = 2 ** (rounds - level)
                for seed in few_seeds_of_interest(rounds):
                    block = block_of(rounds, level, seed)
                    self.assertEqual(snake_group(groups, seed), block)
                    index = member_index(rounds, level, seed)
                    self.assertEqual(nth_in_group(groups, block, index), nth_member(rounds, level, block, index))

    def test_a_full_cup_has_no_byes(self):
        for rounds in (1, 2, 3, 64, 100):
            matches = [count_matches(rounds, 2 ** rounds, stage) for stage in range(1, rounds + 1)]
            self.assertEqual(sum(matches), Cup(rounds).free_now)
            self.assertEqual(sum(matches), SeriesCup(rounds, 1).least_games)
            for seed in few_seeds_of_interest(rounds):
                self.assertEqual(first_match(rounds, 2 ** rounds, seed), 1)
                self.assertEqual(count_opponents(rounds, 2 ** rounds, seed, rounds), 2 ** (rounds - 1))


if __name__ == "__main__":
    unittest.main()
