"""Where a little table nearly stands: how many of its signs are unlike those below."""

from tablefind.cells import is_cell, is_count
from tablefind.errors import NoCell, NoNumber
from tablefind.places import cells_of_signs, cells_to_lie_at, lies_wholly
from tablefind.tables import check_both


def _how_many_unlike(great, signs, cell):
    """How many of the signs have another sign in the great table, from the cell on."""
    i, j = cell
    return len([sign for r, c, sign in signs if great[i + r][j + c] != sign])


def unlike_at(great, little, cell):
    """How many cells of the little table, not free, have another sign at the cell."""
    check_both(great, little)
    if not is_cell(cell) or not lies_wholly(great, little, cell):
        raise NoCell("this is no cell at which the little table lies wholly in the great one")
    return _how_many_unlike(great, cells_of_signs(little), cell)


def nearest_cells(great, little):
    """The least number of unlike signs with the cells that have it; None if it lies nowhere."""
    check_both(great, little)
    cells = cells_to_lie_at(great, little)
    if len(cells) == 0:
        return None
    signs = cells_of_signs(little)
    numbers = [_how_many_unlike(great, signs, cell) for cell in cells]
    least = min(numbers)
    return least, [cell for cell, number in zip(cells, numbers) if number == least]


def near_cells(great, little, k):
    """All cells, sorted, at which at most k signs of the little table are unlike."""
    check_both(great, little)
    if not is_count(k):
        raise NoNumber("this is no whole number from 0 on")
    signs = cells_of_signs(little)
    cells = cells_to_lie_at(great, little)
    return [cell for cell in cells if _how_many_unlike(great, signs, cell) <= k]
