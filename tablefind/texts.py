"""Tables and cells as texts: each is written in one way, and read back from it."""

from tablefind.errors import NoText
from tablefind.tables import check_little, is_little

NO_CELLS = "-"


def _writing_of(rows):
    """The writing of a little table; nothing is checked here."""
    if any(["/" in row for row in rows]):
        return " ".join([row.replace("/", "//") for row in rows])
    return "/".join(rows)


def show_table(little):
    """The writing of a little table."""
    check_little(little)
    return _writing_of(little)


def _rows_written(text):
    """The rows that the text writes, if it writes any at all."""
    # Rows are not empty: so one / stands beside another only where it is a sign.
    if "//" in text:
        return [row.replace("//", "/") for row in text.split(" ")]
    return text.split("/")


def read_table(text):
    """The little table of which this is the writing."""
    if type(text) is not str:
        raise NoText("this is no text")
    rows = _rows_written(text)
    # What is almost a writing, with an odd / in it, reads as rows that are written otherwise.
    if not is_little(rows) or _writing_of(rows) != text:
        raise NoText("this text is the writing of no table")
    return rows


def show_cells(cells):
    """The writing of a list of cells."""
    if len(cells) == 0:
        return NO_CELLS
    return " ".join([f"{i}.{j}" for i, j in cells])


def is_short_number(word):
    """Whether the word is a number of one or two figures, the first no 0 of two."""
    if not all(["0" <= figure <= "9" for figure in word]):
        return False
    return len(word) == 1 or len(word) == 2 and word[0] != "0"


def _writes_cell(word):
    """Whether the word is the writing of one cell."""
    i, _, j = word.partition(".")
    return is_short_number(i) and is_short_number(j)


def _cell_written(word):
    i, _, j = word.partition(".")
    return int(i), int(j)


def read_cells(text):
    """The list of cells, sorted and each once, of which this is the writing."""
    if type(text) is not str:
        raise NoText("this is no text")
    if text == NO_CELLS:
        return []
    words = text.split(" ")
    if not all([_writes_cell(word) for word in words]):
        raise NoText("this text is the writing of no cells")
    cells = [_cell_written(word) for word in words]
    if sorted(set(cells)) != cells:
        raise NoText("these cells are not sorted, each once")
    return cells
