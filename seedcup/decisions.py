"""What claims decide: which half of a block wins the match of the block.

A result is a free choice of the winning half for each match. So claims fit
together if and only if no two of them decide a match differently, and what
they do not decide is open. A match is written as a tuple (round, block).
The functions expect that their arguments were checked before.
"""

from seedcup.dealing import group_of
from seedcup.errors import Inconsistent
from seedcup.halves import other_half, own_half


def decisions(rounds, claim):
    """A dict of the matches that a claim decides, with the numbers of the halves that win them."""
    word, seed, last = claim
    decided = {match_of(rounds, stage, seed): own_half(rounds, stage, seed) for stage in range(1, last + 1)}
    if word == "out":
        decided[match_of(rounds, last, seed)] = other_half(rounds, last, seed)
    return decided


def differ(first, second):
    """Whether two dicts of decided matches give a match to different halves."""
    return any(played in second and second[played] != first[played] for played in first)


def contains_all(decided, told):
    """Whether all matches of the second dict are decided in the first one, and by the same halves."""
    return all(played in decided and decided[played] == told[played] for played in told)


def decided_by_all(rounds, claims):
    """A dict of the matches that any of the claims decides; raises Inconsistent if two claims differ."""
    return decided_besides(rounds, {}, claims)


def decided_besides(rounds, decided, claims):
    """A dict of what claims decide besides the matches that are decided; raises Inconsistent if they do not fit."""
    added = {}
    for claim in claims:
        told = decisions(rounds, claim)
        if differ(told, decided) or differ(told, added):
            raise Inconsistent()
        for played in told:
            if played not in decided:
                added[played] = told[played]
    return added


def count_open(rounds, decided):
    """How many matches are not decided."""
    matches = (1 << rounds) - 1
    return matches - len(decided)


def touched_blocks(rounds, decided):
    """A dict of the blocks that contain a decided match, in ascending order of their levels, each with True."""
    # Each claim decides a match of round 1, so these matches lead to all of them.
    firsts = [block for (stage, block) in decided if stage == 1]
    return {match_of(rounds, level, block): True for level in range(1, rounds + 1) for block in firsts}


def match_of(rounds, stage, seed):
    """The match that a seed plays in round number stage if it gets so far."""
    return stage, group_of(1 << (rounds - stage), seed)
