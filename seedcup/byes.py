"""Cups with fewer players than places: who goes on without a match.

A block has a player if and only if its best seed, its number, is one.
"""

from seedcup.checks import check_player, check_players, check_rounds, check_stage
from seedcup.dealing import count_dealt
from seedcup.halves import count_halves, other_half


def count_matches(rounds, players, stage):
    """The number of matches in round number stage."""
    check_rounds(rounds)
    check_players(rounds, players)
    check_stage(rounds, stage)
    halves = count_halves(rounds, stage)
    # Each match needs a player in the worse half of its block. The worse
    # halves are those whose numbers are above the middle.
    return max(0, min(players, halves) - halves // 2)


def first_match(rounds, players, seed):
    """The first round in which there is an opponent for a seed, or None."""
    check_rounds(rounds)
    check_players(rounds, players)
    check_player(players, seed)
    for stage in range(1, rounds + 1):
        if other_half(rounds, stage, seed) <= players:
            return stage
    return None


def count_opponents(rounds, players, seed, stage):
    """The number of possible opponents of a seed in round number stage."""
    check_rounds(rounds)
    check_players(rounds, players)
    check_player(players, seed)
    check_stage(rounds, stage)
    return count_dealt(count_halves(rounds, stage), other_half(rounds, stage, seed), players)
