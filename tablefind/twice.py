"""The squares of a table: how many are unlike, and the greatest that comes twice."""

from tablefind.cells import is_whole
from tablefind.errors import NoNumber
from tablefind.tables import check_table


def _greatest_side(great):
    return min(len(great), len(great[0]))


def _square_at(great, cell, s):
    """The signs of the square of s rows and columns from the cell on, as one text."""
    i, j = cell
    return "".join([row[j:j + s] for row in great[i:i + s]])


def _cells_of_squares(great, s):
    """The cells, sorted, from which on there is a square of s."""
    rows = len(great) - s + 1
    columns = len(great[0]) - s + 1
    return [(i, j) for i in range(rows) for j in range(columns)]


def how_many_squares(great, s):
    """How many unlike squares of s rows and s columns the table has."""
    check_table(great)
    if not is_whole(s) or not 1 <= s <= _greatest_side(great):
        raise NoNumber("there is no square of so many rows and columns")
    return len({_square_at(great, cell, s) for cell in _cells_of_squares(great, s)})


def _least_pair(great, s):
    """The least two cells at which a square of s comes twice; None if none does."""
    firsts = {}
    pairs = []
    for cell in _cells_of_squares(great, s):
        square = _square_at(great, cell, s)
        if square in firsts:
            pairs.append((firsts[square], cell))
        else:
            firsts[square] = cell
    return min(pairs, default=None)


def greatest_twice(great):
    """A tuple (s, cell, cell) of the greatest square that comes twice; None if no sign does."""
    check_table(great)
    for s in range(_greatest_side(great), 0, -1):
        pair = _least_pair(great, s)
        if pair is not None:
            one, other = pair
            return s, one, other
    return None
