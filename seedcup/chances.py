"""What claims leave possible: how far a seed may come, whom it may meet, and who may win a block."""

from seedcup.checks import check_block, check_claim_list, check_index, check_level, check_rounds, check_seed
from seedcup.dealing import count_dealt_to_any
from seedcup.decisions import decided_by_all, match_of, touched_blocks
from seedcup.halves import halves_of, own_half
from seedcup.meetings import meeting_round


def possible_ends(rounds, claims, seed):
    """The list of the possible ends of a seed as tuples (low, high) in ascending order."""
    check_rounds(rounds)
    check_claim_list(rounds, claims)
    check_seed(rounds, seed)
    spans = []
    for end in _ends_of(rounds, decided_by_all(rounds, claims), seed):
        if spans and spans[-1][1] == end - 1:
            spans[-1] = (spans[-1][0], end)
        else:
            spans.append((end, end))
    return spans


def can_meet(rounds, claims, first, second):
    """Whether two different seeds play a match in some result that satisfies the claims."""
    check_rounds(rounds)
    check_claim_list(rounds, claims)
    stage = meeting_round(rounds, first, second)
    decided = decided_by_all(rounds, claims)
    # Before they meet they play in different halves of a block, so each of
    # them may come as far as it can, whatever the other one does.
    return _ends_of(rounds, decided, first)[-1] >= stage and _ends_of(rounds, decided, second)[-1] >= stage


def count_winners(rounds, claims, level, block):
    """The number of the possible winners of a block."""
    return _count_all(_checked_free_blocks(rounds, claims, level, block))


def nth_winner(rounds, claims, level, block, index):
    """The possible winner of a block with an index in ascending order."""
    free = _checked_free_blocks(rounds, claims, level, block)
    check_index(_count_all(free), index)
    low = 1
    high = 1 << rounds
    while low < high:
        middle = (low + high) // 2
        if _count_up_to(rounds, free, middle) > index:
            high = middle
        else:
            low = middle + 1
    return low


def _ends_of(rounds, decided, seed):
    """The list of all possible ends of a seed in ascending order."""
    ends = []
    for stage in range(1, rounds + 1):
        played = match_of(rounds, stage, seed)
        if played not in decided:
            ends.append(stage)
        elif decided[played] != own_half(rounds, stage, seed):
            return ends + [stage]
    return ends + [rounds + 1]


def _checked_free_blocks(rounds, claims, level, block):
    """The free blocks of a block, after all checks of these parameters."""
    check_rounds(rounds)
    check_claim_list(rounds, claims)
    check_level(rounds, level)
    check_block(rounds, level, block)
    return _free_blocks(rounds, decided_by_all(rounds, claims), level, block)


def _free_blocks(rounds, decided, level, block):
    """A dict of lists of blocks for each level: all of their seeds together are the possible winners of a block."""
    touched = touched_blocks(rounds, decided)
    free = {}
    left = [block]
    for stage in range(level, 0, -1):
        # Each seed may win a block in which nothing is decided.
        free[stage] = [part for part in left if (stage, part) not in touched]
        left = _halves_that_may_win(rounds, decided, stage, [part for part in left if (stage, part) in touched])
    free[0] = left
    return free


def _halves_that_may_win(rounds, decided, stage, blocks):
    halves = []
    for block in blocks:
        if (stage, block) in decided:
            halves.append(decided[(stage, block)])
        else:
            halves.extend(halves_of(rounds, stage, block))
    return halves


def _count_all(free):
    """How many seeds there are in free blocks."""
    return sum(len(free[level]) << level for level in free)


def _count_up_to(rounds, free, last):
    """How many of the seeds from 1 to the last one are in free blocks."""
    return sum(count_dealt_to_any(1 << (rounds - level), free[level], last) for level in free)
