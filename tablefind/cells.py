"""Whole numbers and cells: what they are."""


def is_whole(thing):
    """Whether this is a whole number, and no truth; anything may be asked about."""
    return type(thing) is int


def is_count(thing):
    """Whether this is a whole number from 0 on; anything may be asked about."""
    return is_whole(thing) and thing >= 0


def is_cell(thing):
    """Whether this is a tuple (i, j) of numbers from 0 on; anything may be asked about."""
    if type(thing) is not tuple or len(thing) != 2:
        return False
    return is_count(thing[0]) and is_count(thing[1])


def cells_of(table):
    """All cells of a table, sorted."""
    return [(i, j) for i in range(len(table)) for j in range(len(table[0]))]
