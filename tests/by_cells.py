"""What the document says, worked out anew by plain means, to hold what is told against."""

from itertools import combinations


def turned_by_cells(table):
    """One quarter turn, cell by cell: row i, column j goes to row j, column last - i."""
    rows, columns = len(table), len(table[0])
    cells = {(j, rows - 1 - i): table[i][j] for i in range(rows) for j in range(columns)}
    return ["".join([cells[i, j] for j in range(rows)]) for i in range(columns)]


def posed_by_cells(table, pose):
    rows = list(table)
    if "m" in pose:
        rows = ["".join(list(reversed(row))) for row in rows]
    for _ in range("0123".index(pose[-1])):
        rows = turned_by_cells(rows)
    return rows


def cells_as_they_go(rows, columns, pose):
    """A dict from each cell of a table of that size to the cell to which it goes in the pose."""
    grid = [[(i, j) for j in range(columns)] for i in range(rows)]
    if "m" in pose:
        grid = [row[::-1] for row in grid]
    for _ in range("0123".index(pose[-1])):
        grid = [list(row) for row in zip(*grid[::-1])]
    return {cell: (i, j) for i, row in enumerate(grid) for j, cell in enumerate(row)}


def signs_by_cells(table):
    return {(i, j): sign for i, row in enumerate(table) for j, sign in enumerate(row)}


def stands_by_cells(great, little, cell):
    """Whether it stands there, by dicts of the cells of both, as signs_by_cells makes them."""
    i, j = cell
    return all((i + r, j + c) in great and sign in ("?", great[i + r, j + c]) for (r, c), sign in little.items())


def places_by_cells(great, little):
    cells, parts = signs_by_cells(great), signs_by_cells(little)
    return [cell for cell in sorted(cells) if stands_by_cells(cells, parts, cell)]


def posed_places_by_cells(great, little):
    """The places in any pose, each little table looked for once, in the pose that tells it first."""
    told = []
    seen = []
    for pose in "0 1 2 3 m0 m1 m2 m3".split():
        rows = posed_by_cells(little, pose)
        if rows not in seen:
            seen.append(rows)
            told.extend([(cell, len(seen), pose) for cell in places_by_cells(great, rows)])
    return [(i, j, pose) for (i, j), _, pose in sorted(told)]


def tiled(great, little):
    """The great table laid beside itself, till the little one lies in it wherever it begins."""
    down = 1 + -(-len(little) // len(great))
    across = 1 + -(-len(little[0]) // len(great[0]))
    return [row * across for row in great * down]


def round_places_by_tiles(great, little):
    cells, parts = signs_by_cells(tiled(great, little)), signs_by_cells(little)
    return [cell for cell in sorted(signs_by_cells(great)) if stands_by_cells(cells, parts, cell)]


def moved_by_steps(great, a, b):
    """The table moved round, a row or a column at a time."""
    rows = list(great)
    for _ in range(abs(a)):
        rows = rows[1:] + rows[:1] if a > 0 else rows[-1:] + rows[:-1]
    for _ in range(abs(b)):
        rows = [row[1:] + row[:1] if b > 0 else row[-1:] + row[:-1] for row in rows]
    return rows


def all_moved(great):
    """Tuples (table, a, b) of all ways to move it round, from (0, 0) on."""
    return [(moved_by_steps(great, a, b), a, b) for a in range(len(great)) for b in range(len(great[0]))]


def covered_by_cells(little, cell):
    """The cells that the little table covers at the cell."""
    return {(cell[0] + r, cell[1] + c) for (r, c), sign in signs_by_cells(little).items() if sign != "?"}


def uncovered_by_cells(great, little):
    covered = set()
    for cell in places_by_cells(great, little):
        covered |= covered_by_cells(little, cell)
    return sorted(set(signs_by_cells(great)) - covered)


def are_apart(little, places):
    """Whether no cell is covered by two of the places."""
    covers = [covered_by_cells(little, place) for place in places]
    return len(set().union(*covers)) == sum([len(cover) for cover in covers])


def most_apart_by_choices(great, little):
    """The least of the longest lists of places that are apart, out of all lists there are."""
    places = places_by_cells(great, little)
    for many in range(len(places), -1, -1):
        found = [list(chosen) for chosen in combinations(places, many) if are_apart(little, chosen)]
        if found:
            return min(found)


def unlike_by_cells(great, little):
    """A dict from each cell at which the little table lies wholly to how many signs are unlike."""
    cells, parts = signs_by_cells(great), signs_by_cells(little)
    told = {}
    for i, j in cells:
        if all((i + r, j + c) in cells for r, c in parts):
            told[i, j] = sum([sign not in ("?", cells[i + r, j + c]) for (r, c), sign in parts.items()])
    return told


def squares_by_cells(great, s):
    """A dict from each square of s rows and columns to the cells, sorted, at which it comes."""
    signs = signs_by_cells(great)
    told = {}
    for i, j in sorted(signs):
        cells = [(i + r, j + c) for r in range(s) for c in range(s)]
        if all([cell in signs for cell in cells]):
            told.setdefault(tuple([signs[cell] for cell in cells]), []).append((i, j))
    return told


def twice_by_cells(great):
    """The greatest square that comes twice, with the least pair out of all pairs there are."""
    for s in range(min(len(great), len(great[0])), 0, -1):
        pairs = []
        for cells in squares_by_cells(great, s).values():
            pairs.extend(combinations(cells, 2))
        if pairs:
            return (s, *min(pairs))
    return None


def table_written_by_signs(table):
    """The writing of a table, sign by sign."""
    slashes = "/" in signs_by_cells(table).values()
    told = ""
    for i, row in enumerate(table):
        if i > 0:
            told += " " if slashes else "/"
        for sign in row:
            told += "//" if sign == "/" else sign
    return told


def table_read_by_signs(text):
    """The table of which this is the writing, as the two ways to write one let it be; None of none."""
    if not all([" " <= sign <= "~" for sign in text]):
        return None
    with_slashes = text.replace(" ", "\n").replace("//", "\0")
    with_slashes = "" if "/" in with_slashes else with_slashes.replace("\0", "/")
    without = "" if " " in text else text.replace("/", "\n")
    told = []
    for way, slashes in ((with_slashes, True), (without, False)):
        rows = way.split("\n")
        even = len({len(row) for row in rows}) == 1 and rows[0] != ""
        if even and all(["!" <= sign <= "~" for sign in "".join(rows)]) and ("/" in way) is slashes:
            told.append(rows)
    assert len(told) < 2, text
    return told[0] if told else None


def cells_written(cells):
    """The writing of a list of cells."""
    return " ".join([str(i) + "." + str(j) for i, j in cells]) or "-"


class KeptByCells:
    """Rows as they come and go; what is told is how the places of them all change."""

    def __init__(self, little, columns):
        self.little = list(little)
        self.kept = []

    def places(self):
        return places_by_cells(self.kept, self.little) if self.kept else []

    def row(self, text):
        before = self.places()
        self.kept.append(text)
        return [cell for cell in self.places() if cell not in before]

    def back(self):
        before = self.places()
        self.kept.pop()
        return [cell for cell in before if cell not in self.places()]

    def first_gone(self):
        before = self.places()
        del self.kept[0]
        moved = [(i + 1, j) for i, j in self.places()]
        return [cell for cell in before if cell not in moved]
