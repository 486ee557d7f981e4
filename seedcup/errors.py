"""The errors of the package: one class for each kind of failure."""


class CupError(ValueError):
    """The base class of all errors of the package."""


class InvalidRounds(CupError):
    """The number of rounds is not an integer from 1 to 100."""


class InvalidSeed(CupError):
    """A seed is not an integer in the range of the seeds."""


class InvalidLevel(CupError):
    """A level is not an integer from 0 to the number of rounds."""


class InvalidRound(CupError):
    """The number of a round is not an integer from 1 to the number of rounds."""


class InvalidBlock(CupError):
    """A number is not the number of a block of the level."""


class InvalidIndex(CupError):
    """An index, a place or a count is not an integer in its range."""


class SameSeed(CupError):
    """Two seeds that must be different are equal."""


class InvalidGroups(CupError):
    """The number of groups is not an integer from 1 on."""


class InvalidGroup(CupError):
    """A group is not an integer from 1 to the number of groups."""


class InvalidPlayers(CupError):
    """The number of players is not an integer from 1 to 2 ** rounds."""


class InvalidClaim(CupError):
    """A value is not a claim for the cup."""


class InvalidClaims(CupError):
    """A value is not a list of claims."""


class Inconsistent(CupError):
    """No result satisfies all of the claims."""


class InvalidDraw(CupError):
    """A value is not a draw."""


class NotStandard(CupError):
    """A draw is not a standard draw."""


class InvalidResult(CupError):
    """A value is not a result of the cup."""


class InvalidWins(CupError):
    """The number of wins in a series is not an integer from 1 on."""


class UnknownName(CupError):
    """A value is not the name of a seed."""


class NothingToUndo(CupError):
    """There is no call of `record` left to undo."""


class InvalidText(CupError):
    """A value is not a text of the expected form."""


class TooLarge(CupError):
    """There are more rounds than `limit`, the most that the function takes."""

    def __init__(self, limit):
        super().__init__(f"more than {limit} rounds")
        self.limit = limit
