"""What several tests share: the document's rules, written out, and a check of errors."""

import itertools
import random
import unittest

from seedcup.errors import CupError

# Values that are never an integer, of the kinds that are likely to slip through.
NO_INTEGERS = (True, False, None, "1", "", [1], [], (1,), {1: 1}, b"\x01")

# Cups that are large, or at the edge of what a machine number holds.
LARGE_CUPS = (62, 63, 64, 65, 99, 100)

# Cups that are small enough to play all of their results.
PLAYED_CUPS = (1, 2, 3)


def bracket_by_rule(rounds):
    """The bracket, made by the rule of [4]."""
    seeds = [1]
    for _ in range(rounds):
        size = len(seeds)
        seeds = [new for seed in seeds for new in (seed, 2 * size + 1 - seed)]
    return seeds


def bracket_ends(rounds, count):
    """The first and the last seeds of the bracket, made by the rule of [4] at both ends only."""
    first, last = [1], [1]
    for done in range(rounds):
        total = 2 ** done
        first = [new for seed in first for new in (seed, 2 * total + 1 - seed)][:count]
        last = [new for seed in last for new in (seed, 2 * total + 1 - seed)][-count:]
    return first, last


def blocks_by_cutting(rounds, level):
    """The blocks of a level, cut out of the bracket as [5] says."""
    seeds = bracket_by_rule(rounds)
    size = 2 ** level
    return [seeds[start:start + size] for start in range(0, len(seeds), size)]


def other_half_by_cutting(seeds, place, stage):
    """The seeds of a bracket that the seed at a place may meet in round number stage."""
    size = 2 ** (stage - 1)
    start = place // size * size
    if start % (2 * size) == 0:
        return seeds[start + size:start + 2 * size]
    return seeds[start - size:start]


def triangular(seed):
    return seed * (seed - 1) // 2


def together_by_rule(rounds, level, first, second):
    """Whether two seeds share a block, by the rule of [6]."""
    return (triangular(first) - triangular(second)) % 2 ** (rounds - level) == 0


def least_level_by_rule(rounds, first, second):
    """The least level at which two seeds share a block, by the rule of [6]."""
    difference = triangular(first) - triangular(second)
    shared = 0
    while shared < rounds and difference % 2 == 0:
        difference //= 2
        shared += 1
    return rounds - shared


def seeds_of_interest(rounds):
    """Seeds at both ends of a cup, in its middle, and near powers of two."""
    most = 2 ** rounds
    near = {2 ** power + step for power in range(rounds + 1) for step in (-2, -1, 0, 1, 2)}
    near |= {most - 2 ** power + step for power in range(rounds) for step in (-1, 0, 1)}
    near |= {most // 3, most // 5, most // 7 + 1, most * 2 // 3}
    return sorted(seed for seed in near if 1 <= seed <= most)


def few_seeds_of_interest(rounds):
    """Some of these: few enough to take all pairs of them."""
    most = 2 ** rounds
    near = {1, 2, 3, 4, 5, most // 3, most // 2 - 1, most // 2, most // 2 + 1, most // 2 + 2}
    near |= {most // 4, most // 4 + 1, 3 * most // 4, 3 * most // 4 + 1}
    near |= {most - 3, most - 2, most - 1, most}
    return sorted(seed for seed in near if 1 <= seed <= most)


def block_by_rule(rounds, level, seed):
    """The number of the block of a level that contains a seed: the best seed with its remainder, by [6]."""
    size = 2 * 2 ** (rounds - level)
    return min(seed % size or size, (1 - seed) % size or size)


def halves_by_rule(rounds, level, block):
    """The numbers of the two halves of a block, by the rule of [4]."""
    return block, 2 * 2 ** (rounds - level) + 1 - block


def play_all(rounds):
    """All results of a cup, played match by match: for each of them the round in which each seed loses.

    The winner of the cup has the round after the last one.
    """
    states = [(bracket_by_rule(rounds), {})]
    for stage in range(1, rounds + 1):
        states = [state for seeds, ends in states for state in play_round(seeds, ends, stage)]
    return [{**ends, seeds[0]: rounds + 1} for seeds, ends in states]


def play_round(seeds, ends, stage):
    """All ways in which a round may end: the winners that are left, and the ends so far."""
    matches = list(zip(seeds[::2], seeds[1::2]))
    for choice in itertools.product((0, 1), repeat=len(matches)):
        winners = [pair[side] for pair, side in zip(matches, choice)]
        losers = {pair[1 - side]: stage for pair, side in zip(matches, choice)}
        yield winners, {**ends, **losers}


def matches_of(rounds, ends):
    """The matches of a result as tuples (round, block, winner, loser) in ascending order."""
    matches = []
    for stage in range(1, rounds + 1):
        for seeds in blocks_by_cutting(rounds, stage):
            loser, winner = sorted((seed for seed in seeds if ends[seed] >= stage), key=lambda seed: ends[seed])
            matches.append((stage, min(seeds), winner, loser))
    return sorted(matches)


def upsets_of(rounds, ends):
    """The matches of a result that the worse seed wins, as tuples (round, block) in ascending order."""
    return [(stage, block) for stage, block, winner, loser in matches_of(rounds, ends) if winner > loser]


def random_ends(rounds, chance):
    """The ends of a result in which each match is won by either player."""
    seeds, ends = bracket_by_rule(rounds), {}
    for stage in range(1, rounds + 1):
        pairs = [chance.sample(pair, 2) for pair in zip(seeds[::2], seeds[1::2])]
        seeds = [winner for winner, _ in pairs]
        ends.update({loser: stage for _, loser in pairs})
    return {**ends, seeds[0]: rounds + 1}


def written_result(rounds, ends):
    """A result as the list of its winners, as [20] says."""
    return [winner for _, _, winner, _ in matches_of(rounds, ends)]


def upset_bits(rounds, ends):
    """The list of a result that has 1 for each upset and 0 for each other match."""
    return [int(winner > loser) for _, _, winner, loser in matches_of(rounds, ends)]


def wins(claim):
    """How many rounds a claim says that its seed wins."""
    return claim[2] if claim[0] == "won" else claim[2] - 1


def loses(claim):
    """The round in which a claim says that its seed loses, or None."""
    return claim[2] if claim[0] == "out" else None


def satisfied(claim, ends):
    word, seed, number = claim
    if word == "won":
        return ends[seed] > number
    return ends[seed] == number


def fit(rounds, first, second):
    """Whether two claims are consistent, by the round in which their seeds meet."""
    if first[1] == second[1]:
        ends = {loses(claim) for claim in (first, second)} - {None}
        return len(ends) == 0 or len(ends) == 1 and max(wins(first), wins(second)) < min(ends)
    stage = least_level_by_rule(rounds, first[1], second[1])
    both_win = wins(first) >= stage and wins(second) >= stage
    both_lose = loses(first) == stage and loses(second) == stage
    return not both_win and not both_lose


def all_claims(rounds):
    return [(word, seed, number) for word in ("won", "out")
            for seed in range(1, 2 ** rounds + 1) for number in range(1, rounds + 1)]


def play_expected(rounds, claims):
    """The expected result of claims, played match by match by the words of [18]: the end of each seed."""
    seeds, ends = bracket_by_rule(rounds), {}
    for stage in range(1, rounds + 1):
        winners = []
        for pair in zip(seeds[::2], seeds[1::2]):
            winner = expected_of_pair(claims, stage, min(pair), max(pair))
            ends[sum(pair) - winner] = stage
            winners.append(winner)
        seeds = winners
    return {**ends, seeds[0]: rounds + 1}


def expected_of_pair(claims, stage, better, worse):
    for claim in claims:
        if claim[1] in (better, worse):
            other = better + worse - claim[1]
            if wins(claim) >= stage:
                return claim[1]
            if loses(claim) == stage:
                return other
    return better


def expected_by_halves(rounds, claims, level, block, upsets):
    """The winner of a block; its upsets are added to a list. The claims are only about seeds of the block."""
    if not claims or level == 0:
        return block
    own = {half: [claim for claim in claims if block_by_rule(rounds, level - 1, claim[1]) == half]
           for half in halves_by_rule(rounds, level, block)}
    players = {half: expected_by_halves(rounds, own[half], level - 1, half, upsets) for half in own}
    winner = min(players.values())
    for half, other in (tuple(own), tuple(own)[::-1]):
        for claim in own[half]:
            if wins(claim) >= level:
                winner = players[half]
            elif loses(claim) == level:
                winner = players[other]
    if winner == max(players.values()):
        upsets.append((level, block))
    return winner


class PlayedCup:
    """A small cup with all its results; a set of results is an integer with one bit for each."""

    def __init__(self, rounds):
        self.rounds = rounds
        self.seeds = range(1, 2 ** rounds + 1)
        self.claims = all_claims(rounds)
        self.results = play_all(rounds)
        self.everything = 2 ** len(self.results) - 1
        self.bits = {claim: self.where(lambda ends: satisfied(claim, ends)) for claim in self.claims}
        self.blocks = [(level, min(seeds), sorted(seeds)) for level in range(rounds + 1)
                       for seeds in blocks_by_cutting(rounds, level)]

    def where(self, test):
        """The results that pass a test."""
        return sum(2 ** at for at, ends in enumerate(self.results) if test(ends))

    def results_of(self, claims):
        left = self.everything
        for claim in claims:
            left &= self.bits[claim]
        return left

    def first_conflict(self, claims):
        for j, later in enumerate(claims):
            for i, earlier in enumerate(claims[:j]):
                if self.bits[earlier] & self.bits[later] == 0:
                    return i, j
        return None


PLAYED = {rounds: PlayedCup(rounds) for rounds in PLAYED_CUPS}


def consistent_lists(cup, seed, many=600):
    """Lists of claims of a small cup that some result satisfies.

    No claim, one, two, and then random ones of three to nine claims, in any
    order, some of them equal.
    """
    chance = random.Random(seed)
    for size in (0, 1, 2):
        for claims in itertools.combinations_with_replacement(cup.claims, size):
            if cup.results_of(claims) != 0:
                yield chance.sample(claims, size)
    for _ in range(many):
        ends = chance.choice(cup.results)
        allowed = [claim for claim in cup.claims if satisfied(claim, ends)]
        yield chance.choices(allowed, k=chance.randint(3, 9))


def random_claims(rounds, size, chance):
    """Consistent claims of a large cup, as many as wanted or nearly so, many of them about seeds that meet."""
    claims = []
    seeds = few_seeds_of_interest(rounds) + [chance.randint(1, 2 ** rounds) for _ in range(5)]
    for _ in range(8 * size):
        if len(claims) == size:
            break
        number = chance.choice((1, 2, 3, rounds // 2, rounds - 2, rounds - 1, rounds, chance.randint(1, rounds)))
        claim = (chance.choice(("won", "out")), chance.choice(seeds), max(1, number))
        if all(fit(rounds, claim, other) for other in claims):
            claims.append(claim)
            seeds.append(seed_beside(rounds, claim[1], chance))
    return claims


def seed_beside(rounds, seed, chance):
    """A seed that may meet a seed in some round."""
    stage = chance.randint(1, rounds)
    better, worse = halves_by_rule(rounds, stage, block_by_rule(rounds, stage, seed))
    other = worse if block_by_rule(rounds, stage - 1, seed) == better else better
    # Of each row of as many seeds as there are halves, a half has one seed.
    halves = 2 ** (rounds - stage + 1)
    row = chance.randrange(2 ** (stage - 1))
    return row * halves + (other if row % 2 == 0 else halves + 1 - other)


class CupTestCase(unittest.TestCase):
    """A test case that can ask for an error of exactly one class."""

    def assert_error(self, error_class, function, *args, **named):
        with self.assertRaises(ValueError) as caught:
            function(*args, **named)
        self.assertIs(error_class, caught.exception.__class__, (function.__name__, args, named))
        self.assertEqual(error_class.__mro__[1:3], (CupError, ValueError))
