"""The refusals, all under TableError and none under another one."""


class TableError(ValueError):
    """Any refusal."""


class NoTable(TableError):
    """What was handed in is no table, or no little table."""


class NoPose(TableError):
    """What was handed in is none of the eight poses."""


class NoCell(TableError):
    """What was handed in is no cell that may be asked for."""


class NoNumber(TableError):
    """What was handed in is no number that may be asked for, or there is no row to go."""


class TooMany(TableError):
    """There are more than the document lets be."""


class NoText(TableError):
    """The text writes nothing that can be read back."""


class NoName(TableError):
    """No table stands by the name."""


class NoRow(TableError):
    """What was handed in is no row that may come, or be said at the desk."""
