"""Round tables: the last row is followed by the first, the last column likewise."""

from tablefind.cells import cells_of, is_whole
from tablefind.errors import NoNumber
from tablefind.places import cells_of_signs
from tablefind.tables import check_both, check_table


def _fits_round(great, signs, cell):
    """Whether each of the signs has the like in the great table, gone round from the cell on."""
    rows, columns = len(great), len(great[0])
    i, j = cell
    for r, c, sign in signs:
        if great[(i + r) % rows][(j + c) % columns] != sign:
            return False
    return True


def round_places(great, little):
    """All cells, sorted, at which the little table stands in the great one, which is round."""
    check_both(great, little)
    signs = cells_of_signs(little)
    return [cell for cell in cells_of(great) if _fits_round(great, signs, cell)]


def _rows_moved(rows, a, b):
    """The rows moved round by a cell of theirs, a new list; nothing is checked here."""
    return [row[b:] + row[:b] for row in rows[a:] + rows[:a]]


def _check_whole(thing):
    """Refuse what is no whole number."""
    if not is_whole(thing):
        raise NoNumber("this is no whole number")


def moved_round(great, a, b):
    """The table that has at row i, column j the sign of row i + a, column j + b, gone round."""
    check_table(great)
    _check_whole(a)
    _check_whole(b)
    return _rows_moved(great, a % len(great), b % len(great[0]))


def how_many_moved(great):
    """To how many unlike tables the great one comes, moved round."""
    check_table(great)
    cells = cells_of(great)
    same = [(a, b) for a, b in cells if _rows_moved(great, a, b) == great]
    # Each of the unlike tables is made by as many moves as leave the table as it is.
    return len(cells) // len(same)


def least_moved(great):
    """The least table that the great one comes to, behind the first (a, b) that makes it."""
    check_table(great)
    told = (0, 0, list(great))
    for a, b in cells_of(great):
        table = _rows_moved(great, a, b)
        if table < told[2]:
            told = (a, b, table)
    return told
