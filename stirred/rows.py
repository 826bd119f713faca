"""Rows: lists of equally many ratios, and what moves from one row to another one."""

from stirred.checks import is_list_within
from stirred.ratios import is_ratio

MOST_ROWS = 8
MOST_IN_ROW = 8


def is_rows(value):
    """Return whether any value is rows."""
    if not is_list_within(value, 1, MOST_ROWS) or not all([_is_row(row) for row in value]):
        return False
    return all([len(row) == len(value[0]) for row in value])


def copy_of(rows):
    """Return rows that are new down to the lists within them."""
    return [list(row) for row in rows]


def moved(rows, giver, taker, part):
    """Return rows of which one gave a part of itself to another one; below 0, it takes as much back."""
    moving = [ratio * part for ratio in rows[giver]]
    after = copy_of(rows)
    after[giver] = [ratio - move for ratio, move in zip(rows[giver], moving)]
    after[taker] = [ratio + move for ratio, move in zip(rows[taker], moving)]
    return after


def moved_by_all(rows, moves):
    """Return new rows behind some moves, tuples of a giver, a taker and a part."""
    after = copy_of(rows)
    for giver, taker, part in moves:
        after = moved(after, giver, taker, part)
    return after


def _is_row(value):
    """Return whether any value is a list of 1 to 8 ratios."""
    return is_list_within(value, 1, MOST_IN_ROW) and all([is_ratio(ratio) for ratio in value])
