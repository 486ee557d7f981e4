"""Snake draws: the seeds dealt to groups forwards, then backwards, and so on."""

from seedcup.checks import is_integer_between, is_integer_from
from seedcup.dealing import group_of, nth_dealt
from seedcup.errors import InvalidGroup, InvalidGroups, InvalidIndex, InvalidSeed


def snake_group(groups, seed):
    """The group of a seed."""
    _check_groups(groups)
    if not is_integer_from(seed, 1):
        raise InvalidSeed()
    return group_of(groups, seed)


def nth_in_group(groups, group, index):
    """The seed with an index in a group."""
    _check_groups(groups)
    _check_group(groups, group)
    _check_index(index)
    return nth_dealt(groups, group, index)


def group_sum(groups, group, count):
    """The sum of the first seeds of a group, so many of them."""
    _check_groups(groups)
    _check_group(groups, group)
    _check_index(count)
    # The seeds with the indexes 2 * i and 2 * i + 1 have the sum
    # (4 * i + 2) * groups + 1 in every group: what a group loses forwards,
    # it gains backwards.
    pairs = count // 2
    total = pairs * (2 * groups * pairs + 1)
    if count % 2 == 1:
        total = total + nth_dealt(groups, group, count - 1)
    return total


def refines(groups, other):
    """Whether any two seeds in one group of the first draw are in one group of the other draw."""
    _check_groups(groups)
    _check_groups(other)
    # Group 1 has the seeds 1 and 2 * groups. They are in one group of the
    # other draw only if 2 * other divides 2 * groups; and if it does, then
    # being equal to j or 1 - j modulo the one implies it modulo the other.
    return groups % other == 0


def _check_groups(groups):
    if not is_integer_from(groups, 1):
        raise InvalidGroups()


def _check_group(groups, group):
    if not is_integer_between(group, 1, groups):
        raise InvalidGroup()


def _check_index(index):
    if not is_integer_from(index, 0):
        raise InvalidIndex()
