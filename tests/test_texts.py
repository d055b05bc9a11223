"""Points 1 to 3 and 20: tables and cells written, and read back."""

import re
import unittest
from itertools import product

from tablefind.anypose import places_posed
from tablefind.apart import most_apart, uncovered
from tablefind.near import near_cells, nearest_cells
from tablefind.places import all_places
from tablefind.rounds import round_places
from tablefind.texts import read_cells, read_table, show_cells, show_table
from tests.by_cells import cells_written, table_read_by_signs, table_written_by_signs
from tests.samples import (
    FAR, SIGNS, Alike, Plain, assert_cells, assert_refused, assert_told_anew, freed, littles_for, no_littles,
    pairs_of_many_sizes, small_tables, wide_table,
)

# A cell is written with numbers of one or two figures, the first no 0 of two.
CELL = "(?:[0-9]|[1-9][0-9])[.](?:[0-9]|[1-9][0-9])"

SIZES = ((1, 1), (1, 2), (2, 1), (1, 40), (40, 1), (2, 3), (3, 2), (7, 5), (12, 12), (39, 40), (40, 40))


def no_texts():
    """Things that are no text, new ones."""
    return [
        None, True, False, 0, 1, -1, FAR, 1j, ..., NotImplemented, b"", b"a", b"ab/cd", b"0.0", b"-", bytearray(b"-"),
        [], ["a"], ["ab", "cd"], ["ab/cd"], ["-"], ["0.0"], [(0, 0)], (), ("a",), ("-",), (0, 0), ("0", "0"), {},
        {"a": "a"}, {"-"}, {"0.0": 1}, set(), frozenset(["a"]), range(2), object(), Plain(), Plain, Alike(), [Alike()],
        len, str, lambda: "a", iter("a"), (sign for sign in "-"),
    ]


def tables_of_many_sizes():
    """Little tables with / among their signs, with many of them, with / alone, with none, and with free cells."""
    told = []
    for rows, columns in SIZES:
        for signs in ("a", "ab", "/", "a/", "///a", "a?", "?", "/?", "//?a", ".-/", "~!", SIGNS, SIGNS + "?"):
            told.append(wide_table(rows, columns, signs))
        told.extend([freed(wide_table(rows, columns, SIGNS), step) for step in (2, 3, 7)])
        # One / alone, first and last.
        free = ["?" * columns] * rows
        told.extend([["/" + row[1:] if i == 0 else row for i, row in enumerate(free)],
                     [row[:-1] + "/" if i == rows - 1 else row for i, row in enumerate(free)]])
    return told


class Tables(unittest.TestCase):

    def assert_shown(self, little, text):
        """That this is the writing of the little table, which is read back."""
        told = show_table(little)
        self.assertEqual(told, text)
        self.assertIs(type(told), str)
        self.assert_read(text, little)

    def assert_read(self, text, little):
        told = read_table(text)
        self.assertEqual(told, little)
        self.assertIs(type(told), list)
        self.assertEqual([type(row) for row in told], [str] * len(told))

    def test_plain_examples(self):
        self.assert_shown(["a"], "a")
        self.assert_shown(["abc"], "abc")
        self.assert_shown(["ab", "cd"], "ab/cd")
        self.assert_shown(["a", "b", "c"], "a/b/c")
        self.assert_shown(["a?", "?b"], "a?/?b")
        self.assert_shown(["?"], "?")
        self.assert_shown(["??", "??"], "??/??")
        self.assert_shown(["-"], "-")
        self.assert_shown(["0.0"], "0.0")

    def test_with_slashes_among_the_signs(self):
        self.assert_shown(["/"], "//")
        self.assert_shown(["//"], "////")
        self.assert_shown(["///"], "//////")
        self.assert_shown(["/", "/"], "// //")
        self.assert_shown(["//", "//"], "//// ////")
        self.assert_shown(["a/"], "a//")
        self.assert_shown(["/a"], "//a")
        self.assert_shown(["a/b"], "a//b")
        self.assert_shown(["/", "a"], "// a")
        self.assert_shown(["a", "/"], "a //")
        self.assert_shown(["a/", "bc"], "a// bc")
        self.assert_shown(["ab", "cd", "/e"], "ab cd //e")
        self.assert_shown(["/?", "?/"], "//? ?//")
        self.assert_shown(["?/", "??"], "?// ??")
        self.assert_shown(["\\/"], "\\//")

    def test_small_tables(self):
        texts = {}
        for little in small_tables(3, 3, "a/") + small_tables(2, 2, "a/?") + small_tables(3, 2, "a?/"):
            text = table_written_by_signs(little)
            self.assert_shown(little, text)
            # No two tables have one writing.
            self.assertEqual(texts.setdefault(text, little), little)

    def test_many_sizes(self):
        for little in tables_of_many_sizes():
            self.assert_shown(little, table_written_by_signs(little))

    def test_the_longest_writing(self):
        little = ["/" * 40] * 40
        self.assert_shown(little, " ".join(["/" * 80] * 40))
        self.assertEqual(len(show_table(little)), 3239)
        self.assert_shown(["/" + "a" * 39] + ["b" * 40] * 39, "//" + "a" * 39 + (" " + "b" * 40) * 39)

    def test_only_a_writing_with_a_slash_among_the_signs_has_a_blank(self):
        for little in tables_of_many_sizes() + small_tables(3, 2, "a/"):
            slashes = any(["/" in row for row in little])
            self.assertEqual(" " in show_table(little), slashes and len(little) > 1)

    def test_all_short_texts(self):
        for signs, longest in (("a/ ", 7), ("a/ ?", 5), ("ab/ \n", 4), ("/ ", 9)):
            for length in range(longest + 1):
                for text in ["".join(chosen) for chosen in product(signs, repeat=length)]:
                    little = table_read_by_signs(text)
                    if little is None:
                        assert_refused(self, "NoText", read_table, text)
                    else:
                        self.assert_read(text, little)
                        self.assertEqual(show_table(little), text)

    def test_texts_that_write_none(self):
        for text in ("", " ", "  ", "/", "///", "/////", "a/", "/a", "a//b/c", "a/b//c", "a///b", "a/b c", "a b",
                     "ab cd", "a ", " a", "a  //", "// ", " //", "//  //", "// / //", "// a/b", "ab/c", "a/bc",
                     "ab/cd/e", "//a b", "// ab", "a//b c", "a// b// c", "/// a", "a /", "a ///", "a/b/", "/a/b",
                     "a//b/", "\n", "a\n", "\na", "a\tb", "a/b\n", "a/\n", "// \n", "//\n//", "//\t//", "a\rb",
                     "a\n/b\n", "// a\n", "? ?", "?/??"):
            self.assertIsNone(table_read_by_signs(text), text)
            assert_refused(self, "NoText", read_table, text)

    def test_writings_that_were_spoilt(self):
        for little in tables_of_many_sizes():
            text = show_table(little)
            for wrong in (text + "/", text + " ", " " + text, text + "\n", "\t" + text, text + "/ ", text + " /",
                          text.replace("/", " /", 1) if "/" in text else text + " a",
                          text.replace(" ", "  ", 1) if " " in text else text + "  "):
                read = table_read_by_signs(wrong)
                if read is None:
                    assert_refused(self, "NoText", read_table, wrong)
                else:
                    self.assert_read(wrong, read)

    def test_long_texts(self):
        for text in ("/" * 3299, "a " * 1650, "a" * 40 + " " * 3260, "a/" * 1650, "\n" * 3300, " " * 3300):
            assert_refused(self, "NoText", read_table, text)

    def test_what_is_no_text(self):
        for thing in no_texts():
            assert_refused(self, "NoText", read_table, thing)

    def test_what_is_no_little_table(self):
        for thing in no_littles():
            assert_refused(self, "NoTable", show_table, thing)

    def test_lists_are_not_changed_and_new_ones(self):
        for little in (["a"], ["a/", "/?"], ["ab", "?d"]):
            assert_told_anew(self, show_table, little)
            assert_told_anew(self, read_table, show_table(little))
            self.assertIsNot(read_table(show_table(little)), little)
        little = ["ab", "cd"]
        self.assertEqual(show_table(little), "ab/cd")
        little[1] = "/d"
        self.assertEqual(show_table(little), "ab //d")


class Cells(unittest.TestCase):

    def assert_shown(self, cells, text):
        """That this is the writing of the cells, which are read back."""
        told = show_cells(cells)
        self.assertEqual(told, text)
        self.assertIs(type(told), str)
        assert_cells(self, read_cells(text), cells)

    def test_plain_examples(self):
        self.assert_shown([], "-")
        self.assert_shown([(0, 0)], "0.0")
        self.assert_shown([(0, 0), (0, 3), (1, 1)], "0.0 0.3 1.1")
        self.assert_shown([(3, 12)], "3.12")
        self.assert_shown([(12, 3)], "12.3")
        self.assert_shown([(39, 39)], "39.39")
        self.assert_shown([(10, 20), (11, 0)], "10.20 11.0")

    def test_sorted_by_numbers_not_by_letters(self):
        self.assert_shown([(2, 0), (10, 0)], "2.0 10.0")
        self.assert_shown([(0, 9), (0, 10)], "0.9 0.10")
        assert_refused(self, "NoText", read_cells, "10.0 2.0")
        assert_refused(self, "NoText", read_cells, "0.10 0.9")

    def test_each_cell_alone(self):
        for cell in product(range(40), repeat=2):
            self.assert_shown([cell], cells_written([cell]))

    def test_many_cells(self):
        cells = list(product(range(40), repeat=2))
        for step in (4, 5, 7, 11, 40, 41):
            self.assert_shown(cells[::step], cells_written(cells[::step]))
            self.assert_shown(cells[step::step], cells_written(cells[step::step]))

    def test_all_cells_of_forty_by_forty(self):
        cells = list(product(range(40), repeat=2))
        text = show_cells(cells)
        self.assertEqual(text, cells_written(cells))
        assert_cells(self, read_cells(text), cells)

    def test_what_the_other_stages_tell(self):
        for great, little in pairs_of_many_sizes():
            told = [all_places(great, little), round_places(great, little), uncovered(great, little),
                    near_cells(great, little, 1)]
            nearest = nearest_cells(great, little)
            if nearest is not None:
                told.append(nearest[1])
            for cells in told:
                self.assert_shown(cells, cells_written(cells))
        self.assert_shown(most_apart(["aaaaa"], ["aa"]), "0.0 0.2")
        self.assertEqual([show_cells([(i, j)]) for i, j, _ in places_posed(["ab", "ba"], ["ab"])],
                         ["0.0", "0.0", "0.1", "1.0"])

    def test_all_short_texts(self):
        for signs, longest in (("01. -", 6), ("0.1 ", 7), ("09./", 5)):
            for length in range(longest + 1):
                for text in ["".join(chosen) for chosen in product(signs, repeat=length)]:
                    self.assert_read_or_refused(text)

    def assert_read_or_refused(self, text):
        """That the text is read if it is a writing of sorted cells, each once, and refused if not."""
        cells = None
        if text == "-":
            cells = []
        elif re.fullmatch(f"{CELL}(?: {CELL})*", text):
            cells = [tuple([int(number) for number in word.split(".")]) for word in text.split(" ")]
        if cells is None or any([one >= other for one, other in zip(cells, cells[1:])]):
            assert_refused(self, "NoText", read_cells, text)
        else:
            assert_cells(self, read_cells(text), cells)

    def test_numbers_of_one_or_two_figures(self):
        for number in range(100):
            assert_cells(self, read_cells(f"{number}.0"), [(number, 0)])
            assert_cells(self, read_cells(f"0.{number}"), [(0, number)])
        for number in ("00", "01", "09", "000", "001", "010", "100", "101", "999", "1000", "1" * 30, "", "-1", "+1",
                       "-0", "1_0", "a", "x1", "1a", "0x1", "1e", " 1", "1 ", "1\n", "\t1", "1.", ".1", "1/", "1,",
                       "(1", "1)"):
            assert_refused(self, "NoText", read_cells, f"{number}.0")
            assert_refused(self, "NoText", read_cells, f"0.{number}")
            assert_refused(self, "NoText", read_cells, f"0.0 {number}.1")

    def test_cells_not_sorted_or_twice(self):
        for text in ("0.1 0.0", "1.0 0.0", "1.0 0.9", "0.0 0.2 0.1", "2.0 1.9 3.0", "0.0 0.0", "1.1 1.1", "0.0 0.1 0.1",
                     "0.0 0.0 0.1", "0.0 1.0 0.0", "10.0 9.0", "9.10 9.9", "0.0 0.1 0.2 0.2", "39.39 39.39"):
            assert_refused(self, "NoText", read_cells, text)

    def test_texts_that_write_none(self):
        for text in ("", " ", "-0", "- ", " -", "--", "- -", "- 0.0", "0.0 -", "0", "00", "0 0", "0,0", "0.0.0", "0..0",
                     ".", "..", "0.", ".0", "0.0 ", " 0.0", "0.0  0.1", "0.0\n", "\n0.0", "0.0\t0.1", "0.0\n0.1",
                     "0.0,0.1", "0.0/0.1", "(0, 0)", "[]", "none", "a.b", "0.a", "a.0", "0.0 0", "0.0 a", "0.0 0.1 0.",
                     "0 .0", "0. 0", "-1.0", "0.-1", "0.0 0.1-", "\n", "-\n", "0.0 0.1\r", "0" * 3300, " " * 3300,
                     "0." * 1650, "0.0 " * 825):
            assert_refused(self, "NoText", read_cells, text)

    def test_what_is_no_text(self):
        for thing in no_texts():
            assert_refused(self, "NoText", read_cells, thing)

    def test_lists_are_not_changed_and_new_ones(self):
        for cells in ([], [(0, 0)], [(0, 1), (2, 3), (10, 0)]):
            assert_told_anew(self, show_cells, cells)
            text = show_cells(cells)
            told = read_cells(text)
            told.append((40, 40))
            assert_cells(self, read_cells(text), cells)
            self.assertIsNot(read_cells(text), read_cells(text))


class Both(unittest.TestCase):

    def test_what_is_read_may_be_looked_for(self):
        great = read_table("abcab/cabca/bcabc")
        self.assertEqual(show_cells(all_places(great, read_table("a?/?a"))), "0.0 0.3 1.1")
        great = read_table("a//a// //a//a")
        self.assertEqual(great, ["a/a/", "/a/a"])
        self.assertEqual(show_cells(all_places(great, read_table("// a"))), "0.1 0.3")

    def test_written_and_read_tables_have_the_same_places(self):
        great = wide_table(13, 12, "ab/")
        for little in littles_for(great):
            read = read_table(show_table(great)), read_table(show_table(little))
            self.assertEqual(all_places(*read), all_places(great, little))


if __name__ == "__main__":
    unittest.main()
