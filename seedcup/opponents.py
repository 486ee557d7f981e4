"""The possible opponents of a seed: the members of the other half of its block."""

from seedcup.checks import check_index, check_rounds, check_seed, check_stage
from seedcup.dealing import nth_dealt
from seedcup.halves import count_halves, other_half


def nth_opponent(rounds, seed, stage, index):
    """The possible opponent with an index, in ascending order, in round number stage."""
    check_rounds(rounds)
    check_seed(rounds, seed)
    check_stage(rounds, stage)
    check_index(_count(stage), index)
    return nth_dealt(count_halves(rounds, stage), other_half(rounds, stage, seed), index)


def opponents(rounds, seed, stage):
    """Yield the possible opponents in round number stage in ascending order."""
    check_rounds(rounds)
    check_seed(rounds, seed)
    check_stage(rounds, stage)
    halves = count_halves(rounds, stage)
    half = other_half(rounds, stage, seed)
    for index in range(_count(stage)):
        yield nth_dealt(halves, half, index)


def expected_path(rounds, seed):
    """The list of the best possible opponents in the rounds from 1 on."""
    check_rounds(rounds)
    check_seed(rounds, seed)
    # The number of a half is its best seed.
    return [other_half(rounds, stage, seed) for stage in range(1, rounds + 1)]


def _count(stage):
    """How many possible opponents each seed has in a round."""
    return 1 << (stage - 1)
