"""The expected result of claims: who wins it, and which of its matches are upsets."""

from seedcup.checks import check_block, check_claim_list, check_level, check_rounds
from seedcup.decisions import decided_by_all
from seedcup.expected import expected_winners, players_in, winner_in


def expected_winner(rounds, claims, level, block):
    """The winner of a block in the expected result."""
    check_rounds(rounds)
    check_claim_list(rounds, claims)
    check_level(rounds, level)
    check_block(rounds, level, block)
    winners = expected_winners(rounds, decided_by_all(rounds, claims))
    return winner_in(winners, level, block)


def upset_matches(rounds, claims):
    """The list of the upsets of the expected result as tuples (round, block) in ascending order."""
    check_rounds(rounds)
    check_claim_list(rounds, claims)
    decided = decided_by_all(rounds, claims)
    winners = expected_winners(rounds, decided)
    # An open match is no upset: the better player wins it.
    return [(stage, block) for (stage, block) in sorted(decided)
            if winners[(stage, block)] == max(players_in(rounds, winners, stage, block))]


def fewest_upsets(rounds, claims):
    """The least number of upsets of a result that satisfies the claims."""
    return len(upset_matches(rounds, claims))
