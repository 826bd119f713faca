"""Factors: by how much transfers mix, and which row is a mixture of other ones."""

from stirred.errors import InvalidRowsError
from stirred.ratios import Ratio, is_ratio, total
from stirred.rows import is_rows
from stirred.vessels import check_vessel, volumes_by_step


def factor_of(volumes, transfers):
    """Return the factor of possible transfers."""
    factor = Ratio(1)
    for now, (_, taker, amount) in zip(volumes_by_step(volumes, transfers), transfers):
        factor = factor * Ratio(now[taker], now[taker] + amount)
    return factor


def determinant(rows):
    """Return the determinant of as many rows as each of them has ratios."""
    _check_rows(rows)
    if len(rows) != len(rows[0]):
        raise InvalidRowsError("the rows are not as many as the ratios of each")
    found = Ratio(1)
    rest = rows
    for column in range(len(rows)):
        at = _pivot_in(rest, column)
        if at is None:
            return Ratio(0)
        found = found * rest[at][column]
        # Each row that the pivot passes on its way to the front turns the sign.
        if at % 2 == 1:
            found = -found
        rest = _without_pivot(rest, at, column)
    return found


def mixture_for(rows, vessel):
    """Return a mixture of the other rows for one row, or None if there is none."""
    _check_rows(rows)
    check_vessel(vessel, len(rows))
    # One equation for each place in the rows: the unknown multiples of the rows, then what they add up to.
    others = [row if index != vessel else [Ratio(0)] * len(row) for index, row in enumerate(rows)]
    equations = [[row[place] for row in others + [rows[vessel]]] for place in range(len(rows[0]))]
    return _solution_of(equations)


def is_mixture_for(rows, vessel, value):
    """Return whether any value is a mixture of the other rows for one row."""
    _check_rows(rows)
    check_vessel(vessel, len(rows))
    if type(value) is not list or len(value) != len(rows) or not all([is_ratio(part) for part in value]):
        return False
    mixed = [total([row[place] * part for row, part in zip(rows, value)]) for place in range(len(rows[0]))]
    return value[vessel] == Ratio(0) and mixed == rows[vessel]


def _solution_of(equations):
    """Return unknowns that solve the equations, 0 where they are free, or None if there are none."""
    unknowns = [Ratio(0)] * (len(equations[0]) - 1)
    pivots = []
    rest = equations
    for column in range(len(unknowns)):
        at = _pivot_in(rest, column)
        if at is not None:
            pivots.append((column, rest[at]))
            rest = _without_pivot(rest, at, column)
    # What is left has 0 before each unknown.
    if any([equation[-1] != Ratio(0) for equation in rest]):
        return None
    for column, pivot in reversed(pivots):
        known = total([ratio * unknown for ratio, unknown in zip(pivot, unknowns)])
        unknowns[column] = (pivot[-1] - known).over(pivot[column])
    return unknowns


def _pivot_in(rows, column):
    """Return the index of the first row that is not 0 in a column, or None."""
    for index, row in enumerate(rows):
        if row[column] != Ratio(0):
            return index
    return None


def _without_pivot(rows, at, column):
    """Return the other rows, each less the multiple of the pivot that leaves 0 in a column."""
    return [_cleared(row, rows[at], column) for row in rows[:at] + rows[at + 1:]]


def _cleared(row, pivot, column):
    """Return a row less the multiple of the pivot that leaves 0 in a column."""
    multiple = row[column].over(pivot[column])
    return [ratio - other * multiple for ratio, other in zip(row, pivot)]


def _check_rows(rows):
    """Raise an error unless a value is rows."""
    if not is_rows(rows):
        raise InvalidRowsError("rows are 1 to 8 lists of equally many ratios, 1 to 8 of them")
