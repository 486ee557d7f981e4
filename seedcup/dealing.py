"""Dealing seeds to groups: forwards, then backwards, then forwards again, and so on.

Both the groups of a snake draw and the blocks of a level are dealt in this
way. Cut into rows of as many seeds as there are groups, the seeds 1, 2, 3, ...
give one seed of each row to each group, and each second row runs backwards.
The functions expect that their arguments were checked before.
"""


def group_of(groups, seed):
    """The group that a seed is dealt to."""
    return _turned(groups, (seed - 1) // groups, (seed - 1) % groups + 1)


def nth_dealt(groups, group, index):
    """The seed with an index, from 0, among the seeds that are dealt to a group."""
    return index * groups + _turned(groups, index, group)


def count_dealt(groups, group, last):
    """How many of the seeds from 1 to the last one are dealt to a group."""
    rows = last // groups
    if _turned(groups, rows, group) <= last % groups:
        return rows + 1
    return rows


def count_dealt_to_any(groups, chosen, last):
    """How many of the seeds from 1 to the last one are dealt to any of the chosen groups."""
    rows = last // groups
    rest = last % groups
    # The last row has dealt only to so many groups, from the one end or the other.
    if rows % 2 == 0:
        reached = [group for group in chosen if group <= rest]
    else:
        reached = [group for group in chosen if group > groups - rest]
    return rows * len(chosen) + len(reached)


def _turned(groups, row, column):
    """The group of a column of a row, and the column of a group: each second row runs backwards."""
    if row % 2 == 0:
        return column
    return groups + 1 - column
