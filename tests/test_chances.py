import itertools
import random
import unittest

from helper import (LARGE_CUPS, PLAYED, CupTestCase, block_by_rule, consistent_lists, few_seeds_of_interest,
                    halves_by_rule, least_level_by_rule, loses, random_claims, seed_beside, wins)
from seedcup.chances import can_meet, count_winners, nth_winner, possible_ends
from seedcup.errors import Inconsistent, InvalidIndex, SameSeed

EXAMPLE = [("won", 5, 2)]


def spans_of(ends):
    """Ascending integers as tuples (low, high), as few as possible."""
    spans = []
    for end in ends:
        if end - 1 in ends:
            spans[-1] = (spans[-1][0], end)
        else:
            spans.append((end, end))
    return spans


def numbers_of(spans):
    return [end for low, high in spans for end in range(low, high + 1)]


class Facts:
    """What is true in which results of a played cup, as sets of results."""

    def __init__(self, cup):
        pairs = list(itertools.permutations(cup.seeds, 2))
        met = {pair: least_level_by_rule(cup.rounds, *pair) for pair in pairs}
        self.ends = {(seed, end): cup.where(lambda ends: ends[seed] == end)
                     for seed in cup.seeds for end in range(1, cup.rounds + 2)}
        self.meetings = {(a, b): cup.where(lambda ends: min(ends[a], ends[b]) >= met[a, b]) for a, b in pairs}
        self.winners = {(level, block, seed): cup.where(lambda ends: ends[seed] > level)
                        for level, block, seeds in cup.blocks for seed in seeds}


FACTS = {rounds: Facts(cup) for rounds, cup in PLAYED.items()}


def small_cases(seed):
    for rounds, cup in PLAYED.items():
        for claims in consistent_lists(cup, seed):
            yield cup, FACTS[rounds], claims, cup.results_of(claims)


class TestExamples(unittest.TestCase):
    """The examples of section 10."""

    def test_possible_ends(self):
        self.assertEqual(possible_ends(3, [("won", 5, 2)], 1), [(1, 2)])

    def test_can_meet(self):
        self.assertIs(can_meet(3, [("won", 5, 2)], 4, 2), False)

    def test_count_winners(self):
        self.assertEqual(count_winners(3, [("won", 5, 2)], 3, 1), 5)

    def test_nth_winner(self):
        self.assertEqual(nth_winner(3, [("won", 5, 2)], 3, 1, 2), 5)


class TestSmallCups(CupTestCase):
    """[16] and [17] against all results of cups of one to three rounds."""

    def test_possible_ends(self):
        gaps = 0
        for cup, facts, claims, left in small_cases(16):
            for seed in cup.seeds:
                ends = [end for end in range(1, cup.rounds + 2) if facts.ends[seed, end] & left]
                found = possible_ends(cup.rounds, claims, seed)
                self.assertEqual(found, spans_of(ends), (cup.rounds, claims, seed))
                gaps += len(found) > 1
        self.assertGreater(gaps, 100)

    def test_can_meet(self):
        for cup, facts, claims, left in small_cases(17):
            for pair in itertools.permutations(cup.seeds, 2):
                expected = facts.meetings[pair] & left != 0
                self.assertIs(can_meet(cup.rounds, claims, *pair), expected, (cup.rounds, claims, pair))

    def test_winners(self):
        for cup, facts, claims, left in small_cases(18):
            for level, block, seeds in cup.blocks:
                told = (cup.rounds, claims, level, block)
                expected = [seed for seed in seeds if facts.winners[level, block, seed] & left]
                self.assertEqual(count_winners(*told), len(expected), told)
                found = [nth_winner(*told, index) for index in range(len(expected))]
                self.assertEqual(found, expected, told)

    def test_an_index_from_the_number_of_winners_on(self):
        for cup, facts, claims, left in itertools.islice(small_cases(19), 0, None, 7):
            for level, block, _ in cup.blocks:
                count = count_winners(cup.rounds, claims, level, block)
                for index in (count, count + 1, 2 ** level + 1):
                    self.assert_error(InvalidIndex, nth_winner, cup.rounds, claims, level, block, index)

    def test_equal_seeds(self):
        for rounds, cup in PLAYED.items():
            for seed in cup.seeds:
                self.assert_error(SameSeed, can_meet, rounds, [], seed, seed)
                self.assert_error(SameSeed, can_meet, rounds, [("won", seed, 1)], seed, seed)

    def test_claims_that_do_not_fit(self):
        for rounds, cup in PLAYED.items():
            pairs = [list(pair) for pair in itertools.product(cup.claims, repeat=2) if cup.results_of(pair) == 0]
            self.assertTrue(pairs)
            for claims in pairs:
                self.assert_error(Inconsistent, possible_ends, rounds, claims, 1)
                self.assert_error(Inconsistent, can_meet, rounds, claims, 1, 2)
                self.assert_error(Inconsistent, count_winners, rounds, claims, rounds, 1)
                self.assert_error(Inconsistent, count_winners, rounds, claims, 0, 2)
                self.assert_error(Inconsistent, nth_winner, rounds, claims, 1, 1, 0)


class TestPlainCases(CupTestCase):
    """[16] and [17] on some cases that can be checked by thinking."""

    def test_no_claims(self):
        for rounds in (1, 2, 3, 64, 100):
            most = 2 ** rounds
            for seed in few_seeds_of_interest(rounds):
                self.assertEqual(possible_ends(rounds, [], seed), [(1, rounds + 1)])
                self.assertIs(can_meet(rounds, [], seed, seed - 1 or 2), True)
            self.assertEqual(count_winners(rounds, [], rounds, 1), most)
            self.assertEqual(nth_winner(rounds, [], rounds, 1, 0), 1)
            self.assertEqual(nth_winner(rounds, [], rounds, 1, most - 1), most)
            self.assertEqual(count_winners(rounds, [], 0, most), 1)
            self.assertEqual(nth_winner(rounds, [], 0, most, 0), most)

    def test_ends_with_gaps(self):
        self.assertEqual(possible_ends(3, [("out", 8, 1)], 1), [(2, 4)])
        self.assertEqual(possible_ends(3, [("out", 4, 2)], 1), [(1, 1), (3, 4)])
        self.assertEqual(possible_ends(3, [("out", 2, 3)], 1), [(1, 2), (4, 4)])
        self.assertEqual(possible_ends(4, [("out", 8, 2), ("out", 2, 4)], 1), [(1, 1), (3, 3), (5, 5)])

    def test_ends_of_the_seed_of_a_claim(self):
        self.assertEqual(possible_ends(3, [("won", 8, 1)], 8), [(2, 4)])
        self.assertEqual(possible_ends(3, [("won", 8, 3)], 8), [(4, 4)])
        self.assertEqual(possible_ends(3, [("out", 8, 1)], 8), [(1, 1)])
        self.assertEqual(possible_ends(3, [("out", 8, 3), ("won", 8, 1)], 8), [(3, 3)])

    def test_meetings(self):
        self.assertIs(can_meet(3, [("out", 1, 1)], 1, 8), True)
        self.assertIs(can_meet(3, [("out", 1, 1)], 1, 4), False)
        self.assertIs(can_meet(3, [("out", 1, 2)], 4, 1), True)
        self.assertIs(can_meet(3, [("won", 8, 3), ("won", 2, 2)], 8, 2), True)
        self.assertIs(can_meet(3, [("won", 8, 3), ("won", 2, 2)], 8, 3), False)

    def test_claims_twice_and_in_another_order(self):
        claims = [("out", 1, 2), ("won", 3, 1), ("out", 2, 1)]
        twice = [claims[2], claims[0], claims[1], claims[0], claims[2]]
        for told in (claims, twice):
            self.assertEqual(possible_ends(3, told, 4), [(1, 1), (3, 4)])
            self.assertEqual([nth_winner(3, told, 3, 1, index) for index in range(4)], [3, 4, 5, 7])
            self.assertEqual(count_winners(3, told, 3, 1), 4)

    def test_winners_of_a_block_do_not_depend_on_later_rounds(self):
        self.assertEqual(count_winners(3, [("out", 5, 3)], 2, 1), 1)
        self.assertEqual(nth_winner(3, [("out", 5, 3)], 2, 1, 0), 5)
        self.assertEqual(count_winners(3, [("out", 5, 3)], 2, 2), 4)
        self.assertEqual(count_winners(3, [("out", 5, 3)], 3, 1), 4)


def ends_by_rule(rounds, claims, seed):
    """The possible ends of a seed, by the rounds in which it meets the seeds of the claims."""
    ends = list(range(1, rounds + 2))
    for claim in claims:
        stage = least_level_by_rule(rounds, claim[1], seed)
        if stage == 0:
            ends = [end for end in ends if end > wins(claim) and loses(claim) in (None, end)]
        elif wins(claim) >= stage:
            ends = [end for end in ends if end <= stage]
        elif loses(claim) == stage:
            ends = [end for end in ends if end != stage]
    return ends


def count_by_halves(rounds, claims, level, block):
    """The number of possible winners of a block; the claims are only about seeds of the block."""
    if not claims:
        return 2 ** level
    if level == 0:
        return 1
    own = {half: [claim for claim in claims if block_by_rule(rounds, level - 1, claim[1]) == half]
           for half in halves_by_rule(rounds, level, block)}
    counts = {half: count_by_halves(rounds, own[half], level - 1, half) for half in own}
    for half, other in (tuple(own), tuple(own)[::-1]):
        for claim in own[half]:
            if wins(claim) >= level:
                return counts[half]
            if loses(claim) == level:
                return counts[other]
    return sum(counts.values())


def large_cases():
    """Large cups with claims of several numbers up to 130."""
    for rounds in (4, 9, 17) + LARGE_CUPS:
        for number, size in enumerate((1, 2, 5, 20, 130)):
            chance = random.Random(rounds * 10 + number)
            yield rounds, random_claims(rounds, size, chance), chance


class TestLargeCups(CupTestCase):
    """[16] and [17] on cups that are too large to be played."""

    def test_there_are_long_lists(self):
        sizes = [len(claims) for rounds, claims, _ in large_cases() if rounds >= 62]
        self.assertGreater(sizes.count(130), 3, sizes)

    def test_possible_ends(self):
        for rounds, claims, chance in large_cases():
            for seed in self.seeds_of(rounds, claims, chance):
                expected = spans_of(ends_by_rule(rounds, claims, seed))
                self.assertEqual(possible_ends(rounds, claims, seed), expected, (rounds, claims, seed))

    def seeds_of(self, rounds, claims, chance):
        claimed = [claim[1] for claim in claims]
        near = [seed_beside(rounds, seed, chance) for seed in claimed]
        return sorted({1, 2, 2 ** rounds, *chance.sample(claimed, min(len(claimed), 8)), *near[:8]})

    def test_can_meet(self):
        for rounds, claims, chance in large_cases():
            for first, second in itertools.permutations(self.seeds_of(rounds, claims, chance)[::2], 2):
                stage = least_level_by_rule(rounds, first, second)
                expected = min(max(ends_by_rule(rounds, claims, seed)) for seed in (first, second)) >= stage
                self.assertIs(can_meet(rounds, claims, first, second), expected, (rounds, claims, first, second))

    def test_count_winners(self):
        for rounds, claims, chance in large_cases():
            for level, block in self.blocks_of(rounds, claims, chance):
                inside = [claim for claim in claims if block_by_rule(rounds, level, claim[1]) == block]
                expected = count_by_halves(rounds, inside, level, block)
                self.assertEqual(count_winners(rounds, claims, level, block), expected, (rounds, claims, level, block))

    def blocks_of(self, rounds, claims, chance):
        """Some blocks with claims about their seeds, and the whole cup."""
        yield rounds, 1
        for level in sorted({0, 1, 2, rounds // 2, rounds - 1, chance.randint(1, rounds)}):
            yield level, block_by_rule(rounds, level, chance.choice(claims)[1])

    def test_nth_winner(self):
        for rounds, claims, chance in large_cases():
            for level, block in self.blocks_of(rounds, claims, chance):
                count = count_winners(rounds, claims, level, block)
                for index in sorted({0, 1, count // 3, count - 2, count - 1}):
                    if 0 <= index < count:
                        self.check_winner(rounds, claims, level, block, index)
                self.assert_error(InvalidIndex, nth_winner, rounds, claims, level, block, count)

    def check_winner(self, rounds, claims, level, block, index):
        told = (rounds, claims, level, block, index)
        seed = nth_winner(*told)
        self.assertTrue(self.may_win(rounds, claims, level, block, seed), told)
        if index == 0:
            # No better seed may win: the best ones are looked at.
            for better in range(block, min(seed, block + 40)):
                self.assertFalse(self.may_win(rounds, claims, level, block, better), told)
        else:
            before = nth_winner(*told[:4], index - 1)
            self.assertLess(before, seed, told)
            for between in range(max(before + 1, seed - 20), seed):
                self.assertFalse(self.may_win(rounds, claims, level, block, between), told)

    def may_win(self, rounds, claims, level, block, seed):
        inside = block_by_rule(rounds, level, seed) == block
        return inside and max(ends_by_rule(rounds, claims, seed)) > level

    def test_all_winners_of_cups_of_nine_rounds(self):
        chance = random.Random(9)
        for _ in range(20):
            claims = random_claims(9, chance.randint(1, 40), chance)
            for level, block in self.blocks_of(9, claims, chance):
                expected = [seed for seed in range(1, 513) if self.may_win(9, claims, level, block, seed)]
                self.assertEqual(count_winners(9, claims, level, block), len(expected))
                found = [nth_winner(9, claims, level, block, index) for index in range(len(expected))]
                self.assertEqual(found, expected, (claims, level, block))

    def test_one_winner_is_known(self):
        for rounds in LARGE_CUPS:
            for seed in few_seeds_of_interest(rounds):
                claims = [("won", seed, rounds)]
                self.assertEqual(count_winners(rounds, claims, rounds, 1), 1)
                self.assertEqual(nth_winner(rounds, claims, rounds, 1, 0), seed)
                self.assertEqual(possible_ends(rounds, claims, seed), [(rounds + 1, rounds + 1)])

    def test_winners_of_all_blocks_of_a_level(self):
        # The blocks of level 93 are 128, so the seeds 1 to 128 win them.
        claims = [("won", seed, 93) for seed in range(128, 0, -1)] + [("won", 1, 92), ("won", 128, 1)]
        self.assertEqual(count_winners(100, claims, 100, 1), 128)
        self.assertEqual([nth_winner(100, claims, 100, 1, index) for index in range(128)], list(range(1, 129)))
        self.assertEqual(possible_ends(100, claims, 77), [(94, 101)])
        # Block 77 has the seeds that are 77 or -76 modulo 256.
        self.assertIs(can_meet(100, claims, 77, 180), True)
        self.assertIs(can_meet(100, claims, 77, 181), False)
        self.assert_error(InvalidIndex, nth_winner, 100, claims, 100, 1, 128)

    def test_the_best_lose_at_once(self):
        claims = [("out", seed, 1) for seed in range(1, 131)]
        self.assertEqual(count_winners(100, claims, 100, 1), 2 ** 100 - 130)
        self.assertEqual(nth_winner(100, claims, 100, 1, 0), 131)
        self.assertEqual(nth_winner(100, claims, 100, 1, 2 ** 99), 2 ** 99 + 131)
        self.assertEqual(nth_winner(100, claims, 100, 1, 2 ** 100 - 131), 2 ** 100)

    def test_a_half_is_out(self):
        # The other winners are the seeds of the block of level 99 of seed 2.
        claims = [("out", 1, 100)]
        self.assertEqual(count_winners(100, claims, 100, 1), 2 ** 99)
        self.assertEqual([nth_winner(100, claims, 100, 1, index) for index in range(6)], [2, 3, 6, 7, 10, 11])
        self.assertEqual(nth_winner(100, claims, 100, 1, 2 ** 99 - 1), 2 ** 100 - 1)


class TestArguments(unittest.TestCase):
    """[1] and [2]: arguments by position and by name, new lists, and that arguments stay as they are."""

    def test_by_name(self):
        self.assertEqual(possible_ends(rounds=3, claims=EXAMPLE, seed=1), [(1, 2)])
        self.assertEqual(possible_ends(seed=1, claims=EXAMPLE, rounds=3), [(1, 2)])
        self.assertIs(can_meet(rounds=3, claims=EXAMPLE, first=4, second=2), False)
        self.assertIs(can_meet(second=1, first=5, claims=EXAMPLE, rounds=3), True)
        self.assertEqual(count_winners(rounds=3, claims=EXAMPLE, level=3, block=1), 5)
        self.assertEqual(count_winners(block=1, level=3, claims=EXAMPLE, rounds=3), 5)
        self.assertEqual(nth_winner(rounds=3, claims=EXAMPLE, level=3, block=1, index=2), 5)
        self.assertEqual(nth_winner(index=2, block=1, level=3, claims=EXAMPLE, rounds=3), 5)

    def test_by_position_and_name(self):
        self.assertEqual(possible_ends(3, EXAMPLE, seed=1), [(1, 2)])
        self.assertIs(can_meet(3, EXAMPLE, 4, second=2), False)
        self.assertEqual(count_winners(3, EXAMPLE, 3, block=1), 5)
        self.assertEqual(nth_winner(3, EXAMPLE, 3, index=2, block=1), 5)

    def test_the_claims_stay_as_they_are(self):
        claims = [("out", 1, 2), ("won", 3, 1), ("out", 1, 2)]
        possible_ends(3, claims, 1)
        can_meet(3, claims, 1, 2)
        count_winners(3, claims, 3, 1)
        nth_winner(3, claims, 3, 1, 0)
        self.assertEqual(claims, [("out", 1, 2), ("won", 3, 1), ("out", 1, 2)])

    def test_a_returned_list_belongs_to_the_caller(self):
        first, second = possible_ends(3, EXAMPLE, 1), possible_ends(3, EXAMPLE, 1)
        self.assertIsNot(first, second)
        first.append((3, 4))
        first[0] = None
        self.assertEqual(second, [(1, 2)])
        self.assertEqual(possible_ends(3, EXAMPLE, 1), [(1, 2)])

    def test_changed_claims_are_other_claims(self):
        claims = [("won", 5, 2)]
        self.assertEqual(count_winners(3, claims, 3, 1), 5)
        claims.append(("won", 2, 2))
        self.assertEqual(count_winners(3, claims, 3, 1), 2)
        claims.clear()
        self.assertEqual(count_winners(3, claims, 3, 1), 8)

    def test_kinds_of_results(self):
        found = possible_ends(3, [("out", 4, 2)], 1)
        self.assertIs(found.__class__, list)
        self.assertEqual([span.__class__ for span in found], [tuple, tuple])
        self.assertEqual({end.__class__ for span in found for end in span}, {int})
        self.assertIs(count_winners(3, [], 0, 8).__class__, int)
        self.assertIs(nth_winner(3, [], 0, 8, 0).__class__, int)


if __name__ == "__main__":
    unittest.main()
