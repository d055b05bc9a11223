"""The places of a little table in a great one."""

from tablefind.tables import FREE, check_both


def cells_of_signs(little):
    """The cells of the little table that are not free, as tuples (r, c, sign)."""
    told = []
    for r, row in enumerate(little):
        for c, sign in enumerate(row):
            if sign != FREE:
                told.append((r, c, sign))
    return told


def cells_to_lie_at(great, little):
    """The cells, sorted, at which the little table lies wholly in the great one."""
    rows = len(great) - len(little) + 1
    columns = len(great[0]) - len(little[0]) + 1
    return [(i, j) for i in range(rows) for j in range(columns)]


def lies_wholly(great, little, cell):
    """Whether the little table, with its first cell on the cell, lies in the great one."""
    i, j = cell
    # A cell below 0 would be counted from the end of the rows and seem to fit.
    if i < 0 or j < 0:
        return False
    return i + len(little) <= len(great) and j + len(little[0]) <= len(great[0])


def _fits(great, signs, cell):
    """Whether each of the signs has the like in the great table, from the cell on."""
    i, j = cell
    for r, c, sign in signs:
        if great[i + r][j + c] != sign:
            return False
    return True


def all_places(great, little):
    """All cells, sorted, at which the little table stands in the great one."""
    check_both(great, little)
    signs = cells_of_signs(little)
    return [cell for cell in cells_to_lie_at(great, little) if _fits(great, signs, cell)]


def stands_at(great, little, cell):
    """Whether the little table stands at the cell of the great one."""
    check_both(great, little)
    return lies_wholly(great, little, cell) and _fits(great, cells_of_signs(little), cell)
