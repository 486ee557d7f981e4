"""Checks of arguments that the modules share.

Each `check_` function raises the error of its parameter, or returns nothing.
A check that needs other arguments expects that they were checked before.
"""

from seedcup.errors import (InvalidBlock, InvalidClaim, InvalidClaims, InvalidDraw, InvalidIndex, InvalidLevel,
                            InvalidPlayers, InvalidRound, InvalidRounds, InvalidSeed, TooLarge)

MOST_ROUNDS = 100

CLAIM_WORDS = ("won", "out")

# How many seeds a draw of 1 to 7 rounds has.
DRAW_SIZES = (2, 4, 8, 16, 32, 64, 128)


def is_integer(value):
    """Whether a value is an integer; True and False are none."""
    return isinstance(value, int) and not isinstance(value, bool)


def is_integer_between(value, low, high):
    """Whether a value is an integer from low to high."""
    return is_integer(value) and low <= value <= high


def is_integer_from(value, low):
    """Whether a value is an integer from low on."""
    return is_integer(value) and low <= value


def has_claim_form(value):
    """Whether a value is a claim for some number of rounds, be it above the limit."""
    if not isinstance(value, tuple) or len(value) != 3:
        return False
    word, seed, stage = value
    # The word may be any value at all: only a text is compared with texts.
    if not isinstance(word, str) or word not in CLAIM_WORDS:
        return False
    return is_integer_from(seed, 1) and is_integer_from(stage, 1)


def is_claim(rounds, value):
    """Whether a value is a claim for a number of rounds."""
    return has_claim_form(value) and value[1] <= 1 << rounds and value[2] <= rounds


def is_draw(value):
    """Whether a value is a draw."""
    if not isinstance(value, list) or len(value) not in DRAW_SIZES:
        return False
    # True and False equal seeds, and values of other kinds may not be sorted.
    if not all(is_integer(seed) for seed in value):
        return False
    return sorted(value) == list(range(1, len(value) + 1))


def check_rounds(rounds):
    if not is_integer_between(rounds, 1, MOST_ROUNDS):
        raise InvalidRounds()


def check_few_rounds(rounds, limit):
    check_rounds(rounds)
    if rounds > limit:
        raise TooLarge(limit)


def check_seed(rounds, seed):
    if not is_integer_between(seed, 1, 1 << rounds):
        raise InvalidSeed()


def check_seeds(rounds, seeds):
    for seed in seeds:
        check_seed(rounds, seed)


def check_player(players, seed):
    if not is_integer_between(seed, 1, players):
        raise InvalidSeed()


def check_players(rounds, players):
    if not is_integer_between(players, 1, 1 << rounds):
        raise InvalidPlayers()


def check_stage(rounds, stage):
    if not is_integer_between(stage, 1, rounds):
        raise InvalidRound()


def check_level(rounds, level):
    if not is_integer_between(level, 0, rounds):
        raise InvalidLevel()


def check_block(rounds, level, block):
    if not is_integer_between(block, 1, 1 << (rounds - level)):
        raise InvalidBlock()


def check_index(size, index):
    if not is_integer_between(index, 0, size - 1):
        raise InvalidIndex()


def check_claim(rounds, claim):
    if not is_claim(rounds, claim):
        raise InvalidClaim()


def check_claims(rounds, claims):
    for claim in claims:
        check_claim(rounds, claim)


def check_claim_list(rounds, claims):
    if not isinstance(claims, list) or not all(is_claim(rounds, claim) for claim in claims):
        raise InvalidClaims()


def check_draw(draw):
    if not is_draw(draw):
        raise InvalidDraw()
