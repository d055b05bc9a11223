"""What several of the tests hand in, and what they ask of refusals."""

from copy import deepcopy
from itertools import product

from tablefind import errors
from tablefind.desk import Desk
from tests.by_cells import table_written_by_signs

# Any sign that a row may have, but for ? and the per cent sign (point 2).
SIGNS = "".join([chr(k) for k in range(33, 127) if chr(k) not in "?%"])

POSES = ["0", "1", "2", "3", "m0", "m1", "m2", "m3"]

# The greatest number of thirty figures.
FAR = 10 ** 30 - 1

NAMES = ("NoTable", "NoPose", "NoCell", "NoNumber", "TooMany", "NoText", "NoName", "NoRow")


class Plain:
    """An object of a class of its own."""


class Alike:
    """An object that is == to everything, and is neither a text nor a list for all that."""

    def __eq__(self, other):
        return True

    def __hash__(self):
        return 0


def no_littles():
    """Things that are no table and no little table either, new ones."""
    round_list = []
    round_list.append(round_list)
    return [
        None, True, False, 0, 1, -3, 10 ** 29, 1j, ..., NotImplemented,
        "", "a", "ab", "ab/cd", b"ab", bytearray(b"ab"), range(2),
        (), ("ab",), ("ab", "cd"), {}, {"ab": 1}, {0: "ab"}, set(), {"ab"}, frozenset(["ab"]),
        object(), Plain(), Plain, Alike(), [Alike()], len, list, str,
        lambda: ["ab"], iter(["ab"]), (row for row in ["ab"]),
        [], [[]], [()], [None], [True], [1], [0, 1], [b"ab"], [bytearray(b"ab")], [["a", "b"]], [("a", "b")],
        [{"a": 1}], [{"a", "b"}], [range(2)], [object()], [["ab"]], (["ab"],), round_list,
        ["ab", None], ["ab", 12], ["ab", b"cd"], ["ab", ["c", "d"]], ["ab", ("c", "d")], [None, "ab"],
        [["a", "b"], "cd"], [("a", "b"), "cd"], [b"ab", "cd"],
        [""], ["", ""], ["", "a"], ["a", ""], ["ab", "", "cd"],
        ["ab", "a"], ["a", "ab"], ["ab", "cd", "efg"], ["ab", "c", "de"], ["abc", "de", "fg"],
        [" "], ["a b"], [" a"], ["a "], ["ab", "c "], ["a b", "abc"], ["ab", "  "],
        ["\t"], ["a\tb"], ["ab", "\tb"], ["a\t"], ["\n"], ["a\nb"], ["ab\n"], ["\nab"], ["ab", "c\n"], ["ab\n", "cd\n"],
        ["\r"], ["ab\r"], ["a\r\n"], ["? "], ["?\n"], ["?\t", "??"],
    ]


def no_tables():
    """Things that are no table, new ones; those with ? are little tables."""
    return no_littles() + [["?"], ["a?"], ["?a"], ["ab", "c?"], ["??", "??"], ["a", "?", "b"], ["a?b", "abc"]]


def no_poses():
    """Things that are no pose, new ones."""
    return [
        None, True, False, 0, 1, 2, 3, 4, -1, 10 ** 29, 1j, ...,
        "", "4", "-1", "00", "01", "10", "m", "m4", "0m", "mm", "mm0", "m00", "m-1", "M0", "M", "m 0",
        " 0", "0 ", "0\n", "m0\n", "\t0", "012", "0123", "0 1", "12", "none", "a", "m0m1", "1m0", "0,1", "'0'",
        b"0", b"m0", ["0"], ["m", "0"], ("0",), ("m", "0"), {"0": 1}, {"0"}, frozenset(["0"]), [], (), {}, set(),
        object(), Plain(), Plain, Alike(), [Alike()], len, str, lambda: "0", iter("0"), range(1),
    ]


def no_wholes():
    """Things that are no whole number, new ones."""
    return [
        None, True, False, 1j, ..., NotImplemented, "", "0", "1", "-1", "a", " 1", "1\n", b"", b"1", bytearray(b"1"),
        [], [0], [1], (), (0,), (1,), (0, 0), {}, {0: 0}, {1: 1}, set(), {0}, frozenset([1]), range(1), range(0),
        object(), Plain(), Plain, Alike(), [Alike()], len, int, bool, lambda: 0, iter([0]),
    ]


def no_cells(rows, columns):
    """Things that are no cell of a table of that size, new ones."""
    beside = [
        (rows, 0), (0, columns), (rows, columns), (rows - 1, columns), (rows, columns - 1), (rows + 1, 0),
        (0, columns + 1), (-1, 0), (0, -1), (-1, -1), (-rows, 0), (0, -columns), (-rows, -columns),
        (FAR, 0), (0, FAR), (FAR, FAR), (-FAR, 0), (0, -FAR), (2 ** 63, 0), (0, -2 ** 63),
    ]
    halves = [(thing, 0) for thing in no_wholes()] + [(0, thing) for thing in no_wholes()]
    others = [
        (True, True), (False, False), ("0", "0"), ((0, 0),), ((0, 0), 0), (0, (0, 0)), ((0,), (0,)), ((0, 0), (0, 0)),
        (0, 0, 0), (0, 0, "0"), (0, 0, 0, 0), [0, 0], [(0, 0)], [0], {0, 1}, {0: 0, 1: 0}, {(0, 0): 1}, {(0, 0)},
        "0.0", "00", "0 0", "(0, 0)", b"00", bytes(2), range(2), 0, 1, -1, FAR,
    ]
    return beside + halves + others + [(), (0,), (1,)] + [thing for thing in no_wholes() if type(thing) is not tuple]


def no_rows(columns):
    """Things that are no row of so many columns, new ones."""
    row = "ab" * columns
    texts = ["", row[:columns - 1], row[:columns + 1], row, "?" * columns, "?" + row[:columns - 1],
             row[:columns - 1] + "?", " " * columns, row[:columns - 1] + " ", " " + row[:columns - 1],
             row[:columns - 1] + "\n", row[:columns] + "\n", "\t" + row[:columns - 1], row[:columns - 1] + "\r",
             row[:columns] + " ", " " + row[:columns], row[:columns] + "/" + row[:columns], "x" * 3300]
    row = row[:columns]
    others = [row.encode(), bytearray(row.encode()), [row], (row,), {row}, {row: 1}, list(row), tuple(row), [[row]],
              frozenset([row]), iter(row), lambda: row, 0, 1, columns, -1, FAR, None, True, False, 1j, ..., object(),
              Plain(), Plain, Alike(), [Alike()], range(columns), len, str, [], (), {}, set(), [""]]
    return [text for text in texts if text != row] + others


def small_tables(most_rows, most_columns, signs):
    """All tables of these signs up to a size."""
    told = []
    for rows in range(1, most_rows + 1):
        for columns in range(1, most_columns + 1):
            texts = ["".join(row) for row in product(signs, repeat=columns)]
            told.extend([list(table) for table in product(texts, repeat=rows)])
    return told


def wide_table(rows, columns, signs, step=7):
    """A table of that size in which the signs come in no plain order."""
    many = len(signs)
    return ["".join([signs[(i * i * step + j * j + i * j + j // 3) % many] for j in range(columns)])
            for i in range(rows)]


def part_of(table, i, j, rows, columns):
    """The rows and columns of the table from a cell on."""
    return [row[j:j + columns] for row in table[i:i + rows]]


def freed(table, step):
    """The table with each cell free whose number is a multiple of the step."""
    columns = len(table[0])
    return ["".join(["?" if (i * columns + j) % step == 0 else row[j] for j in range(columns)])
            for i, row in enumerate(table)]


def littles_for(great):
    """Little tables with places in the great one, with free cells and without, and some with none."""
    rows, columns = min(12, len(great)), min(12, len(great[0]))
    part = part_of(great, len(great) - rows, len(great[0]) - columns, rows, columns)
    small = part_of(great, len(great) // 2, len(great[0]) // 2, 2, 3)
    free = ["?" * columns] * rows
    almost_free = free[:-1] + ["?" * (columns - 1) + part[-1][-1]]
    wrong = part[:-1] + [part[-1][:-1] + "!"]
    return [
        part, freed(part, 2), freed(part, 5), freed(part, 40), free, almost_free, wrong,
        small, freed(small, 2), small[:1], [row[:1] for row in small], part[:1], [row[:1] for row in part],
        [great[0][0]], ["?"], ["!"], [great[0][0] + "?"], ["?", great[0][0]], ["?" * 12] * 12, [great[0][0] * 12],
    ]


def pairs_of_many_sizes():
    """A great table and a little one, of few signs and of any, many such pairs."""
    told = []
    for rows, columns in ((1, 1), (1, 2), (2, 1), (1, 40), (40, 1), (3, 5), (5, 3), (4, 4), (13, 12)):
        for signs in ("a", "ab", "abc", SIGNS):
            great = wide_table(rows, columns, signs)
            told.extend([(great, little) for little in littles_for(great)])
    return told


def desk_of(tables):
    """A desk with these tables, a dict from names."""
    desk = Desk()
    for name, table in tables.items():
        assert desk.say(f"table {name} {table_written_by_signs(table)}") == "ok"
    return desk


def assert_refused(case, name, asked, *handed):
    """That the call is refused by the class of that name, and by none of the others."""
    try:
        told = asked(*handed)
    except errors.TableError as refusal:
        case.assertIsInstance(refusal, ValueError)
        under = [one for one in NAMES if isinstance(refusal, getattr(errors, one))]
        case.assertEqual(under, [name])
        case.assertIs(type(str(refusal)), str)
        return
    case.fail(f"{asked.__name__} refused nothing and told {told!r}")


def refusal_text(asked, *handed):
    """The text with which the call is refused."""
    try:
        asked(*handed)
    except errors.TableError as refusal:
        return str(refusal)
    return None


def assert_great_one_first(case, asked, *rest):
    """That of two that are no tables the great one is refused, as the texts of the refusals tell."""
    great = refusal_text(asked, None, ["a"], *rest)
    little = refusal_text(asked, ["a"], None, *rest)
    case.assertNotEqual(great, little)
    case.assertEqual(refusal_text(asked, None, None, *rest), great)
    case.assertEqual(refusal_text(asked, ["?"], ["b "], *rest), great)


def assert_told_anew(case, asked, *handed):
    """That each list that is told is a new one, that what is handed in stays, and that it is told the same again."""
    before = deepcopy(handed)
    first = asked(*handed)
    second = asked(*handed)
    kept = deepcopy(second)
    case.assertEqual(first, kept)
    for one, other in zip(lists_in(first), lists_in(second)):
        case.assertIsNot(one, other)
        case.assertNotIn(id(one), [id(thing) for thing in lists_in(list(handed))])
        one.append("changed")
        one[0] = "changed"
    case.assertEqual(second, kept)
    case.assertEqual(handed, before)
    case.assertEqual(asked(*handed), kept)
    case.assertEqual([type(one) for one in lists_in(second)], [list] * len(lists_in(second)))


def lists_in(thing):
    """All lists in what is told: itself, and those in its tuples and lists."""
    if not isinstance(thing, (list, tuple)):
        return []
    told = [thing] if isinstance(thing, list) else []
    for part in thing:
        told.extend(lists_in(part))
    return told


def assert_cells(case, told, cells, why=None):
    """That a list of these tuples of whole numbers was told."""
    case.assertEqual(told, cells, why)
    case.assertIs(type(told), list)
    for cell in told:
        assert_cell(case, cell, cell)


def assert_cell(case, told, cell, why=None):
    case.assertEqual(told, cell, why)
    case.assertIs(type(told), tuple)
    case.assertEqual([type(number) for number in told], [int, int])
