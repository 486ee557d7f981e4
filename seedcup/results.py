"""Results of cups of at most 6 rounds: the lists of the winners of all matches, round by round."""

from seedcup.checks import check_claims, check_few_rounds, check_index, is_integer
from seedcup.decisions import contains_all, decisions
from seedcup.errors import InvalidResult
from seedcup.halves import own_half

MOST_ROUNDS_OF_A_RESULT = 6


def is_result(rounds, value):
    """Whether a value is a result."""
    check_few_rounds(rounds, MOST_ROUNDS_OF_A_RESULT)
    if not isinstance(value, list) or len(value) != (1 << rounds) - 1:
        return False
    # True and a float equal integers, but they are no seeds.
    if not all(is_integer(winner) for winner in value):
        return False
    return all(winner in pair for pair, winner in _matches_of(rounds, value))


def nth_result(rounds, index):
    """The result with an index, in the order of the lists with 1 for each upset and 0 for each other match."""
    check_few_rounds(rounds, MOST_ROUNDS_OF_A_RESULT)
    left = (1 << rounds) - 1
    check_index(1 << left, index)
    result = []
    players = _all_seeds(rounds)
    while len(players) > 1:
        winners = []
        for pair in _pairs_of(players):
            # The highest bit of the index is that of the first match.
            left = left - 1
            upset = (index >> left) & 1
            winners.append(max(pair) if upset == 1 else min(pair))
        result.extend(winners)
        players = winners
    return result


def rank_result(rounds, result):
    """The index of a result."""
    _check_result(rounds, result)
    index = 0
    for pair, winner in _matches_of(rounds, result):
        index = 2 * index + (1 if winner == max(pair) else 0)
    return index


def satisfies(rounds, result, *claims):
    """Whether a result satisfies all claims."""
    _check_result(rounds, result)
    check_claims(rounds, claims)
    decided = _decided_by_result(rounds, result)
    return all(contains_all(decided, decisions(rounds, claim)) for claim in claims)


def _check_result(rounds, result):
    if not is_result(rounds, result):
        raise InvalidResult()


def _all_seeds(rounds):
    return list(range(1, (1 << rounds) + 1))


def _pairs_of(players):
    """The players of each match of a round; they are the winners of all blocks of the level before, in their order."""
    # The halves of block j are the blocks j and 2 * m + 1 - j of 2 * m blocks:
    # the first plays against the last, and so on.
    return [(players[at], players[-1 - at]) for at in range(len(players) // 2)]


def _rows_of(rounds, result):
    """The winners of a result, a list for each round."""
    rows = []
    start = 0
    for stage in range(1, rounds + 1):
        end = start + (1 << (rounds - stage))
        rows.append(result[start:end])
        start = end
    return rows


def _matches_of(rounds, result):
    """The list of the matches of a result, in their order: tuples of both players and the winner."""
    matches = []
    players = _all_seeds(rounds)
    for winners in _rows_of(rounds, result):
        matches.extend(list(zip(_pairs_of(players), winners)))
        players = winners
    return matches


def _decided_by_result(rounds, result):
    """A dict of all matches with the numbers of the halves that win them."""
    decided = {}
    for stage, winners in enumerate(_rows_of(rounds, result), start=1):
        for block, winner in enumerate(winners, start=1):
            decided[(stage, block)] = own_half(rounds, stage, winner)
    return decided
