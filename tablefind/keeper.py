"""Rows that come, one below the other, and go: the places of a little table in them."""

from tablefind.cells import is_whole
from tablefind.errors import NoNumber, NoRow, TooMany
from tablefind.places import all_places
from tablefind.tables import check_little, is_table

MOST_COLUMNS = 40
MOST_ROWS = 40


class Keeper:
    """Keeps rows of so many columns, and tells where the little table stands in them."""

    def __init__(self, little, columns):
        check_little(little)
        if not is_whole(columns) or not 1 <= columns <= MOST_COLUMNS:
            raise NoNumber("a keeper has one to forty columns")
        self._little = list(little)
        self._columns = columns
        self._kept = []

    def _cells_in_row(self, i):
        """The cells (i, j), sorted, of row i at which the little table stands; none below 0."""
        # A number below 0 would be counted from the end of the rows.
        if i < 0:
            return []
        rows = self._kept[i:i + len(self._little)]
        return [(i, j) for _, j in all_places(rows, self._little)]

    def _cells_of_last_row(self):
        """The cells, sorted, at which the little table stands with its last row on the last."""
        return self._cells_in_row(len(self._kept) - len(self._little))

    def _check_any_row(self):
        """Refuse to let a row go where there is none."""
        if len(self._kept) == 0:
            raise NoNumber("there is no row that could go")

    def row(self, text):
        """A row comes: the cells of the places whose last row it is."""
        if not is_table([text]) or len(text) != self._columns:
            raise NoRow("this is no row of as many signs as columns")
        if len(self._kept) >= MOST_ROWS:
            raise TooMany("a keeper keeps at most forty rows")
        self._kept.append(text)
        return self._cells_of_last_row()

    def back(self):
        """The last row is taken back: the cells of the places that go with it."""
        self._check_any_row()
        gone = self._cells_of_last_row()
        self._kept.pop()
        return gone

    def first_gone(self):
        """The first row goes: the cells, as they were named, of the places that go with it."""
        self._check_any_row()
        gone = self._cells_in_row(0)
        self._kept.pop(0)
        return gone

    def rows(self):
        """The rows that are kept."""
        return list(self._kept)

    def cells(self):
        """All cells, sorted, at which the little table stands in the rows that are kept."""
        if len(self._kept) == 0:
            return []
        return all_places(self._kept, self._little)
