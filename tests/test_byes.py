import unittest

from helper import bracket_by_rule, few_seeds_of_interest, least_level_by_rule
from seedcup.byes import count_matches, count_opponents, first_match

SMALL_CUPS = range(1, 6)
EDGE_CUPS = (1, 2, 63, 64, 99, 100)


def play_with_byes(rounds, players):
    """A cup with all its possible players, played round by round.

    Returns the number of matches of each round, and for each seed the list of
    its possible opponents in each round.
    """
    blocks = [[seed] if seed <= players else [] for seed in bracket_by_rule(rounds)]
    matches, opponents = [], {seed: [] for seed in range(1, players + 1)}
    for _ in range(rounds):
        pairs = list(zip(blocks[::2], blocks[1::2]))
        matches.append(sum(1 for left, right in pairs if left and right))
        for left, right in pairs:
            for seed in left:
                opponents[seed].append(right)
            for seed in right:
                opponents[seed].append(left)
        blocks = [left + right for left, right in pairs]
    return matches, opponents


def small_cups():
    for rounds in SMALL_CUPS:
        for players in range(1, 2 ** rounds + 1):
            matches, opponents = play_with_byes(rounds, players)
            yield rounds, players, matches, opponents


def meetings_by_round(rounds, seed, others):
    """How many of the others the seed can meet, for each round, by the rule of [6]."""
    counts = [0] * rounds
    for other in others:
        if other != seed:
            counts[least_level_by_rule(rounds, seed, other) - 1] += 1
    return counts


class TestExamples(unittest.TestCase):
    """The examples of section 8."""

    def test_count_matches(self):
        self.assertEqual(count_matches(3, 5, 1), 1)

    def test_first_match(self):
        self.assertEqual(first_match(3, 5, 1), 2)

    def test_count_opponents(self):
        self.assertEqual(count_opponents(3, 5, 1, 2), 2)


class TestSmallCups(unittest.TestCase):
    """[13] against cups that are played here."""

    def test_count_matches(self):
        for rounds, players, matches, _ in small_cups():
            found = [count_matches(rounds, players, stage) for stage in range(1, rounds + 1)]
            self.assertEqual(found, matches, (rounds, players))

    def test_first_match(self):
        for rounds, players, _, opponents in small_cups():
            for seed, by_round in opponents.items():
                expected = next((stage for stage, others in enumerate(by_round, 1) if others), None)
                self.assertEqual(first_match(rounds, players, seed), expected, (rounds, players, seed))

    def test_count_opponents(self):
        for rounds, players, _, opponents in small_cups():
            for seed, by_round in opponents.items():
                found = [count_opponents(rounds, players, seed, stage) for stage in range(1, rounds + 1)]
                self.assertEqual(found, [len(others) for others in by_round], (rounds, players, seed))

    def test_one_player_alone(self):
        for rounds in (1, 2, 3, 64, 100):
            self.assertIsNone(first_match(rounds, 1, 1))
            for stage in {1, rounds}:
                self.assertEqual(count_matches(rounds, 1, stage), 0)
                self.assertEqual(count_opponents(rounds, 1, 1, stage), 0)

    def test_none_for_one_player_only(self):
        for rounds, players, _, opponents in small_cups():
            for seed in opponents:
                self.assertEqual(first_match(rounds, players, seed) is None, players == 1)

    def test_there_may_be_no_opponent(self):
        self.assertEqual(count_opponents(3, 5, 1, 1), 0)
        self.assertEqual(count_opponents(3, 2, 2, 2), 0)
        self.assertEqual(count_matches(3, 4, 1), 0)


class TestLargeCups(unittest.TestCase):
    """[13] on cups that are too large to be played."""

    def test_full_cups(self):
        for rounds in EDGE_CUPS:
            most = 2 ** rounds
            for stage in range(1, rounds + 1):
                self.assertEqual(count_matches(rounds, most, stage), 2 ** (rounds - stage))
                for seed in few_seeds_of_interest(rounds):
                    self.assertEqual(count_opponents(rounds, most, seed, stage), 2 ** (stage - 1))
            for seed in few_seeds_of_interest(rounds):
                self.assertEqual(first_match(rounds, most, seed), 1)

    def test_few_players(self):
        for rounds in EDGE_CUPS:
            for players in range(1, min(2 ** rounds, 20) + 1):
                for seed in range(1, players + 1):
                    self.check_seed(rounds, players, seed, meetings_by_round(rounds, seed, range(1, players + 1)))

    def test_few_players_are_missing(self):
        for rounds in (62, 63, 64, 99, 100):
            for missing in (1, 2, 3, 8, 11):
                players = 2 ** rounds - missing
                for seed in few_seeds_of_interest(rounds):
                    if seed <= players:
                        absent = meetings_by_round(rounds, seed, range(players + 1, 2 ** rounds + 1))
                        counts = [2 ** at - count for at, count in enumerate(absent)]
                        self.check_seed(rounds, players, seed, counts)

    def check_seed(self, rounds, players, seed, counts):
        found = [count_opponents(rounds, players, seed, stage) for stage in range(1, rounds + 1)]
        self.assertEqual(found, counts, (rounds, players, seed))
        expected = next((stage for stage, count in enumerate(counts, 1) if count > 0), None)
        self.assertEqual(first_match(rounds, players, seed), expected, (rounds, players, seed))

    def test_all_but_one_player_lose_one_match(self):
        for rounds in EDGE_CUPS:
            for players in few_seeds_of_interest(rounds):
                counts = [count_matches(rounds, players, stage) for stage in range(1, rounds + 1)]
                self.assertEqual(sum(counts), players - 1, (rounds, players))
                # Only in its first round a cup has matches without being full.
                played = [at for at, count in enumerate(counts) if count > 0]
                for at in played[1:]:
                    self.assertEqual(counts[at], 2 ** (rounds - 1 - at), (rounds, players))

    def test_every_other_player_is_an_opponent_once(self):
        for rounds in EDGE_CUPS:
            for players in few_seeds_of_interest(rounds):
                for seed in few_seeds_of_interest(rounds):
                    if seed <= players:
                        counts = [count_opponents(rounds, players, seed, stage) for stage in range(1, rounds + 1)]
                        self.assertEqual(sum(counts), players - 1, (rounds, players, seed))

    def test_cup_of_hundred_rounds(self):
        half = 2 ** 99
        self.assertEqual(count_matches(100, half, 1), 0)
        self.assertEqual(count_matches(100, half + 1, 1), 1)
        self.assertEqual(count_matches(100, half + 1, 2), 2 ** 98)
        self.assertEqual(first_match(100, half + 1, half + 1), 1)
        self.assertEqual(first_match(100, half + 1, half), 1)
        self.assertEqual(first_match(100, half + 1, half - 1), 2)
        self.assertEqual(first_match(100, 2, 1), 100)
        self.assertEqual(first_match(100, 2, 2), 100)
        self.assertEqual(count_opponents(100, half, 2, 100), half // 2)
        self.assertEqual(count_opponents(100, half + 1, 2, 100), half // 2 + 1)
        self.assertEqual(count_opponents(100, half + 1, 1, 100), half // 2)


class TestArguments(unittest.TestCase):
    """[2]: arguments by position and by name."""

    def test_by_name(self):
        self.assertEqual(count_matches(rounds=3, players=5, stage=1), 1)
        self.assertEqual(count_matches(stage=1, players=5, rounds=3), 1)
        self.assertEqual(first_match(rounds=3, players=5, seed=1), 2)
        self.assertEqual(first_match(seed=1, players=5, rounds=3), 2)
        self.assertEqual(count_opponents(rounds=3, players=5, seed=1, stage=2), 2)
        self.assertEqual(count_opponents(stage=2, seed=1, players=5, rounds=3), 2)

    def test_by_position_and_name(self):
        self.assertEqual(count_matches(3, 5, stage=1), 1)
        self.assertEqual(first_match(3, seed=1, players=5), 2)
        self.assertEqual(count_opponents(3, 5, stage=2, seed=1), 2)

    def test_kinds_of_results(self):
        for result in (count_matches(1, 1, 1), first_match(1, 2, 1), count_opponents(1, 1, 1, 1)):
            self.assertIs(result.__class__, int)

    def test_calls_do_not_influence_each_other(self):
        for _ in range(2):
            self.assertEqual([first_match(3, players, 1) for players in (1, 2, 3, 5, 8)], [None, 3, 3, 2, 1])


if __name__ == "__main__":
    unittest.main()
