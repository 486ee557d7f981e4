"""Claims and draws as texts, and back."""

from seedcup.checks import CLAIM_WORDS, MOST_ROUNDS, check_draw, has_claim_form, is_claim, is_draw
from seedcup.errors import InvalidClaims, InvalidText


def format_claims(claims):
    """The text of a list of claims."""
    if not isinstance(claims, list) or not all(has_claim_form(claim) for claim in claims):
        raise InvalidClaims()
    return ", ".join(f"{seed} {word} {number}" for word, seed, number in claims)


def format_draw(draw):
    """The text of a draw."""
    check_draw(draw)
    return " ".join(str(seed) for seed in draw)


def parse_claims(text):
    """The list of claims that a text writes."""
    _check_text(text)
    if text == "":
        return []
    return [_parse_claim(part) for part in text.split(", ")]


def parse_draw(text):
    """The draw that a text writes."""
    _check_text(text)
    draw = [_parse_number(word) for word in text.split(" ")]
    if not is_draw(draw):
        raise InvalidText()
    return draw


def parse_cup(text):
    """A tuple of the number of rounds and the list of claims that the text of a cup writes."""
    _check_text(text)
    head, bar, tail = text.partition(" | ")
    rounds = _parse_number(head)
    if rounds > MOST_ROUNDS:
        raise InvalidText()
    claims = parse_claims(tail)
    # Without claims the text ends behind the rounds.
    if (bar == "") != (claims == []):
        raise InvalidText()
    if not all(is_claim(rounds, claim) for claim in claims):
        raise InvalidText()
    return rounds, claims


def _check_text(text):
    if not isinstance(text, str):
        raise InvalidText()


def _parse_claim(text):
    words = text.split(" ")
    if len(words) != 3 or words[1] not in CLAIM_WORDS:
        raise InvalidText()
    return words[1], _parse_number(words[0]), _parse_number(words[2])


def _parse_number(text):
    """The integer from 1 on that a text writes without leading zeros."""
    if not text.isascii() or not text.isdigit() or text.startswith("0"):
        raise InvalidText()
    number = 0
    # Digit by digit, since Python refuses to read a very long number at once.
    for digit in text:
        number = number * 10 + int(digit)
    return number
