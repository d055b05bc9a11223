"""What several of the tests hand in, and what they ask of refusals."""

from itertools import product

from tablefind import errors

# Any sign that a row may have, but for ? and the per cent sign (point 2).
SIGNS = "".join([chr(k) for k in range(33, 127) if chr(k) not in "?%"])

POSES = ["0", "1", "2", "3", "m0", "m1", "m2", "m3"]

NAMES = ("NoTable", "NoPose", "NoCell", "NoNumber", "TooMany", "NoText", "NoName", "NoRow")


class Plain:
    """An object of a class of its own."""


class Alike:
    """An object that is == to everything, and is neither a text nor a list for all that."""

    def __eq__(self, other):
        return True

    def __hash__(self):
        return 0


def no_littles():
    """Things that are no table and no little table either, new ones."""
    round_list = []
    round_list.append(round_list)
    return [
        None, True, False, 0, 1, -3, 10 ** 29, 1j, ..., NotImplemented,
        "", "a", "ab", "ab/cd", b"ab", bytearray(b"ab"), range(2),
        (), ("ab",), ("ab", "cd"), {}, {"ab": 1}, {0: "ab"}, set(), {"ab"}, frozenset(["ab"]),
        object(), Plain(), Plain, Alike(), [Alike()], len, list, str,
        lambda: ["ab"], iter(["ab"]), (row for row in ["ab"]),
        [], [[]], [()], [None], [True], [1], [0, 1], [b"ab"], [bytearray(b"ab")], [["a", "b"]], [("a", "b")],
        [{"a": 1}], [{"a", "b"}], [range(2)], [object()], [["ab"]], (["ab"],), round_list,
        ["ab", None], ["ab", 12], ["ab", b"cd"], ["ab", ["c", "d"]], ["ab", ("c", "d")], [None, "ab"],
        [["a", "b"], "cd"], [("a", "b"), "cd"], [b"ab", "cd"],
        [""], ["", ""], ["", "a"], ["a", ""], ["ab", "", "cd"],
        ["ab", "a"], ["a", "ab"], ["ab", "cd", "efg"], ["ab", "c", "de"], ["abc", "de", "fg"],
        [" "], ["a b"], [" a"], ["a "], ["ab", "c "], ["a b", "abc"], ["ab", "  "],
        ["\t"], ["a\tb"], ["ab", "\tb"], ["a\t"], ["\n"], ["a\nb"], ["ab\n"], ["\nab"], ["ab", "c\n"], ["ab\n", "cd\n"],
        ["\r"], ["ab\r"], ["a\r\n"], ["? "], ["?\n"], ["?\t", "??"],
    ]


def no_tables():
    """Things that are no table, new ones; those with ? are little tables."""
    return no_littles() + [["?"], ["a?"], ["?a"], ["ab", "c?"], ["??", "??"], ["a", "?", "b"], ["a?b", "abc"]]


def no_poses():
    """Things that are no pose, new ones."""
    return [
        None, True, False, 0, 1, 2, 3, 4, -1, 10 ** 29, 1j, ...,
        "", "4", "-1", "00", "01", "10", "m", "m4", "0m", "mm", "mm0", "m00", "m-1", "M0", "M", "m 0",
        " 0", "0 ", "0\n", "m0\n", "\t0", "012", "0123", "0 1", "12", "none", "a", "m0m1", "1m0", "0,1", "'0'",
        b"0", b"m0", ["0"], ["m", "0"], ("0",), ("m", "0"), {"0": 1}, {"0"}, frozenset(["0"]), [], (), {}, set(),
        object(), Plain(), Plain, Alike(), [Alike()], len, str, lambda: "0", iter("0"), range(1),
    ]


def small_tables(most_rows, most_columns, signs):
    """All tables of these signs up to a size."""
    told = []
    for rows in range(1, most_rows + 1):
        for columns in range(1, most_columns + 1):
            texts = ["".join(row) for row in product(signs, repeat=columns)]
            told.extend([list(table) for table in product(texts, repeat=rows)])
    return told


def wide_table(rows, columns, signs, step=7):
    """A table of that size in which the signs come in no plain order."""
    many = len(signs)
    return ["".join([signs[(i * i * step + j * j + i * j + j // 3) % many] for j in range(columns)])
            for i in range(rows)]


def part_of(table, i, j, rows, columns):
    """The rows and columns of the table from a cell on."""
    return [row[j:j + columns] for row in table[i:i + rows]]


def freed(table, step):
    """The table with each cell free whose number is a multiple of the step."""
    columns = len(table[0])
    return ["".join(["?" if (i * columns + j) % step == 0 else row[j] for j in range(columns)])
            for i, row in enumerate(table)]


def assert_refused(case, name, asked, *handed):
    """That the call is refused by the class of that name, and by none of the others."""
    try:
        told = asked(*handed)
    except errors.TableError as refusal:
        case.assertIsInstance(refusal, ValueError)
        under = [one for one in NAMES if isinstance(refusal, getattr(errors, one))]
        case.assertEqual(under, [name])
        case.assertIs(type(str(refusal)), str)
        return
    case.fail(f"{asked.__name__} refused nothing and told {told!r}")
