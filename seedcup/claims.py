"""Claims about a cup: which fit together, and what follows from them.

A claim is a tuple ("won", seed, r) or ("out", seed, t): the seed wins its
matches of the rounds 1 to r, or it loses in round t and wins all before.
"""

from seedcup.checks import check_claim, check_claims, check_rounds
from seedcup.decisions import contains_all, count_open, decided_by_all, decisions, differ


def consistent(rounds, *claims):
    """Whether some result satisfies all claims."""
    return conflict(rounds, *claims) is None


def conflict(rounds, *claims):
    """The indexes (i, j) of two claims that are not consistent, the least j and for it the least i, or None."""
    check_rounds(rounds)
    check_claims(rounds, claims)
    told = [decisions(rounds, claim) for claim in claims]
    for j in range(len(told)):
        for i in range(j):
            if differ(told[i], told[j]):
                return i, j
    return None


def free_matches(rounds, *claims):
    """The number f such that 2 ** f results satisfy the claims."""
    check_rounds(rounds)
    check_claims(rounds, claims)
    return count_open(rounds, decided_by_all(rounds, claims))


def follows(rounds, claim, *claims):
    """Whether every result that satisfies the claims satisfies the first claim, too."""
    check_rounds(rounds)
    check_claim(rounds, claim)
    check_claims(rounds, claims)
    return contains_all(decided_by_all(rounds, claims), decisions(rounds, claim))
