"""The desk: tables that stand by names, and rows that change them or ask about them."""

from tablefind.anypose import places_posed
from tablefind.apart import most_apart
from tablefind.errors import NoName, NoRow
from tablefind.near import nearest_cells
from tablefind.places import all_places
from tablefind.poses import posed, same_poses
from tablefind.rounds import least_moved, moved_round, round_places
from tablefind.texts import is_short_number, read_table, show_cells, show_table
from tablefind.twice import greatest_twice

DONE = "ok"
NOTHING = "none"
LONGEST_NAME = 8

# What stands behind the first word of each row: "old" is a name by which a
# table must stand, "new" one by which none needs to.
FORMS = {
    "table": ("new", "text"),
    "pose": ("new", "old", "word"),
    "moved": ("new", "old", "number", "number"),
    "drop": ("old",),
    "find": ("old", "old"),
    "any": ("old", "old"),
    "round": ("old", "old"),
    "apart": ("old", "old"),
    "near": ("old", "old"),
    "least": ("old",),
    "twice": ("old",),
    "same": ("old",),
    "show": ("old",),
    "names": (),
}


def _is_name(word):
    """Whether the word is one to eight small letters."""
    return 1 <= len(word) <= LONGEST_NAME and all(["a" <= letter <= "z" for letter in word])


def _is_of_kind(word, kind):
    """Whether the word may stand where a form has this kind."""
    if kind == "text":
        return True
    if kind == "word":
        return len(word) > 0
    if kind == "number":
        return is_short_number(word)
    return _is_name(word)


def _has_form(words):
    """Whether these are the words of a row of the desk."""
    if words[0] not in FORMS:
        return False
    form = FORMS[words[0]]
    if len(words) != 1 + len(form):
        return False
    return all([_is_of_kind(word, kind) for word, kind in zip(words[1:], form)])


def _words_of(row):
    """The words of a row of the desk, a TEXT as one of them."""
    if type(row) is not str:
        raise NoRow("this is no text")
    # A TEXT has blanks of its own.
    words = row.split(" ", 2) if row.startswith("table ") else row.split(" ")
    if not _has_form(words):
        raise NoRow("this is no row of the desk")
    return words


def _find(great, little):
    return show_cells(all_places(great, little))


def _how_many_posed(great, little):
    return str(len(places_posed(great, little)))


def _find_round(great, little):
    return show_cells(round_places(great, little))


def _find_apart(great, little):
    return show_cells(most_apart(great, little))


def _find_near(great, little):
    nearest = nearest_cells(great, little)
    if nearest is None:
        return NOTHING
    number, cells = nearest
    return f"{number} {show_cells(cells)}"


def _least(great):
    a, b, _ = least_moved(great)
    return f"{a} {b}"


def _twice(great):
    twice = greatest_twice(great)
    if twice is None:
        return NOTHING
    s, one, other = twice
    return f"{s} {show_cells([one, other])}"


def _same(little):
    return " ".join(same_poses(little))


def _show(little):
    return show_table(little)


ASKED_OF_ONE = {"least": _least, "twice": _twice, "same": _same, "show": _show}

ASKED_OF_TWO = {
    "find": _find,
    "any": _how_many_posed,
    "round": _find_round,
    "apart": _find_apart,
    "near": _find_near,
}


class Desk:
    """Tables by names, and what is said of them in rows."""

    def __init__(self):
        self._tables = {}

    def names(self):
        """The names by which tables stand, in the order of letters."""
        return sorted(self._tables)

    def _check_names(self, words):
        """Refuse a name by which no table stands, where one must."""
        for word, kind in zip(words[1:], FORMS[words[0]]):
            if kind == "old" and word not in self._tables:
                raise NoName("no table stands by this name")

    def _table_made(self, words):
        """The table that a row puts into its first name."""
        if words[0] == "table":
            return read_table(words[2])
        table = self._tables[words[2]]
        if words[0] == "pose":
            return posed(table, words[3])
        return moved_round(table, int(words[3]), int(words[4]))

    def _do(self, words):
        """Do what a row asks for that changes the tables."""
        if words[0] == "drop":
            del self._tables[words[1]]
        else:
            self._tables[words[1]] = self._table_made(words)

    def _names_written(self):
        if len(self._tables) == 0:
            return NOTHING
        return " ".join(self.names())

    def say(self, row):
        """What the desk answers to a row."""
        words = _words_of(row)
        self._check_names(words)
        if words[0] == "names":
            return self._names_written()
        if words[0] in ASKED_OF_ONE:
            ask_one = ASKED_OF_ONE[words[0]]
            return ask_one(self._tables[words[1]])
        if words[0] in ASKED_OF_TWO:
            ask_two = ASKED_OF_TWO[words[0]]
            return ask_two(self._tables[words[1]], self._tables[words[2]])
        self._do(words)
        return DONE
