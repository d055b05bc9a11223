"""Points 1 to 4 and 9: the places of a little table in a great one."""

import unittest
from copy import deepcopy

from tablefind.places import all_places, stands_at
from tablefind.poses import posed
from tests.by_cells import places_by_cells, signs_by_cells, stands_by_cells
from tests.samples import (
    FAR, POSES, SIGNS, assert_refused, freed, no_littles, no_tables, part_of, small_tables, wide_table,
)

GREAT = [
    "abcab",
    "cabca",
    "bcabc",
]


def cells_around(great, by):
    """The cells of the great table, and those around it."""
    return [(i, j) for i in range(-by, len(great) + by) for j in range(-by, len(great[0]) + by)]


class AllPlaces(unittest.TestCase):

    def assert_places(self, great, little, places):
        told = all_places(great, little)
        self.assertEqual(told, places, (great, little))
        self.assertIs(type(told), list)
        for cell in told:
            self.assertIs(type(cell), tuple)
            self.assertEqual([type(number) for number in cell], [int, int])

    def test_plain_examples(self):
        self.assert_places(GREAT, ["a"], [(0, 0), (0, 3), (1, 1), (1, 4), (2, 2)])
        self.assert_places(GREAT, ["ab"], [(0, 0), (0, 3), (1, 1), (2, 2)])
        self.assert_places(GREAT, ["ab", "ca"], [(0, 0), (0, 3), (1, 1)])
        self.assert_places(GREAT, ["a?", "?a"], [(0, 0), (0, 3), (1, 1)])
        self.assert_places(GREAT, ["b?", "?b"], [(0, 1), (1, 2)])
        self.assert_places(GREAT, ["?b"], [(0, 0), (0, 3), (1, 1), (2, 2)])
        self.assert_places(GREAT, ["b?"], [(0, 1), (1, 2), (2, 0), (2, 3)])
        self.assert_places(GREAT, ["ac"], [])
        self.assert_places(GREAT, ["x"], [])
        self.assert_places(GREAT, GREAT, [(0, 0)])
        self.assert_places(["a"], ["a"], [(0, 0)])
        self.assert_places(["a"], ["b"], [])
        self.assert_places(["a"], ["?"], [(0, 0)])
        self.assert_places(["a"], ["A"], [])

    def test_places_that_overlap(self):
        self.assert_places(["aaaa"], ["aa"], [(0, 0), (0, 1), (0, 2)])
        self.assert_places(["aaa", "aaa", "aaa"], ["aa", "aa"], [(0, 0), (0, 1), (1, 0), (1, 1)])
        self.assert_places(["ababa"], ["aba"], [(0, 0), (0, 2)])

    def test_edges_and_corners(self):
        great = ["pqqr", "tuuv", "tuuv", "xyyz"]
        for little, places in (
            (["p"], [(0, 0)]), (["r"], [(0, 3)]), (["x"], [(3, 0)]), (["z"], [(3, 3)]),
            (["pq", "tu"], [(0, 0)]), (["qr", "uv"], [(0, 2)]), (["tu", "xy"], [(2, 0)]), (["uv", "yz"], [(2, 2)]),
            (["q"], [(0, 1), (0, 2)]), (["y"], [(3, 1), (3, 2)]), (["t"], [(1, 0), (2, 0)]), (["v"], [(1, 3), (2, 3)]),
            (["pqqr"], [(0, 0)]), (["xyyz"], [(3, 0)]),
            (["p", "t", "t", "x"], [(0, 0)]), (["r", "v", "v", "z"], [(0, 3)]),
            (["t?"], [(1, 0), (2, 0)]), (["?t"], []), (["v?"], []), (["?v"], [(1, 2), (2, 2)]),
            (["x", "?"], []), (["?", "x"], [(2, 0)]), (["p", "?"], [(0, 0)]), (["?", "p"], []),
            (["rt"], []), (["r", "p"], []), (["zp"], []), (["vt"], []),
        ):
            self.assert_places(great, little, places)

    def test_free_cells_alone(self):
        self.assert_places(GREAT, ["?"], [(i, j) for i in range(3) for j in range(5)])
        self.assert_places(GREAT, ["??", "??"], [(i, j) for i in range(2) for j in range(4)])
        self.assert_places(GREAT, ["?????"] * 3, [(0, 0)])
        self.assert_places(GREAT, ["??????"], [])
        self.assert_places(GREAT, ["?"] * 4, [])

    def test_more_rows_or_columns_than_the_great_one(self):
        for little in (["a", "?", "?", "?"], ["a?????"], ["?" * 12] * 12, ["a"] * 12, ["a" * 12], ["?????"] * 4):
            self.assert_places(GREAT, little, [])
        self.assert_places(["a"], ["aa"], [])
        self.assert_places(["a"], ["a", "a"], [])
        self.assert_places(["aaaa"], ["a", "a"], [])
        self.assert_places(["a"] * 4, ["aa"], [])

    def test_small_tables(self):
        littles = small_tables(2, 2, "ab?")
        for great in small_tables(3, 2, "ab") + small_tables(2, 3, "ab"):
            for little in littles:
                self.assert_places(great, little, places_by_cells(great, little))

    def test_one_row_and_one_column(self):
        for many in (1, 2, 5, 39, 40):
            row = wide_table(1, many, "ab", 3)
            for text in ("a", "b", "?", "ab", "a?b", "?a", "b?", "a??a", "abab", "?" * 12):
                little = [text]
                self.assert_places(row, little, places_by_cells(row, little))
                self.assert_places(list(row[0]), list(text), places_by_cells(list(row[0]), list(text)))
                self.assert_places(row, list(text), places_by_cells(row, list(text)))

    def test_great_sizes(self):
        for signs in ("ab", "abc", SIGNS):
            great = wide_table(40, 40, signs)
            for rows, columns in ((1, 1), (2, 3), (12, 12), (1, 12), (12, 1)):
                for i, j in ((0, 0), (0, 40 - columns), (40 - rows, 0), (40 - rows, 40 - columns), (17, 9)):
                    part = part_of(great, i, j, rows, columns)
                    for little in (part, freed(part, 2), freed(part, 3)):
                        places = places_by_cells(great, little)
                        self.assertIn((i, j), places)
                        self.assert_places(great, little, places)

    def test_all_cells_of_the_greatest(self):
        great = ["a" * 40] * 40
        self.assert_places(great, ["a"], [(i, j) for i in range(40) for j in range(40)])
        self.assert_places(great, ["a" * 12] * 12, [(i, j) for i in range(29) for j in range(29)])
        self.assert_places(great, ["a" * 11 + "b"] + ["a" * 12] * 11, [])
        self.assert_places(great, ["a" * 12] * 11 + ["a" * 11 + "b"], [])

    def test_sizes_somewhat_beyond(self):
        great = ["a" * 42] * 41
        self.assert_places(great, ["a" * 40] * 40, [(i, j) for i in range(2) for j in range(3)])

    def test_each_sign(self):
        great = [SIGNS[:30], SIGNS[30:60], SIGNS[60:90]]
        for i, row in enumerate(great):
            for j, sign in enumerate(row):
                self.assert_places(great, [sign], [(i, j)])

    def test_the_places_turn_with_the_great_table(self):
        great = wide_table(6, 9, "ab")
        for little in (["a"], ["ab"], ["a?b"], ["ab", "?a"], ["a", "?", "b"]):
            for pose in POSES:
                self.assertEqual(len(all_places(posed(great, pose), posed(little, pose))),
                                 len(all_places(great, little)))

    def test_a_told_list_is_a_new_one(self):
        first = all_places(GREAT, ["ab"])
        second = all_places(GREAT, ["ab"])
        self.assertIsNot(first, second)
        first.clear()
        self.assertEqual(second, [(0, 0), (0, 3), (1, 1), (2, 2)])
        second.append((9, 9))
        self.assertEqual(all_places(GREAT, ["ab"]), [(0, 0), (0, 3), (1, 1), (2, 2)])
        none = all_places(GREAT, ["ac"])
        none.append((0, 0))
        self.assertEqual(all_places(GREAT, ["ac"]), [])
        self.assertEqual(all_places(GREAT, ["a"] * 4), [])

    def test_lists_that_were_changed_are_asked_anew(self):
        great, little = ["ab", "ba"], ["a"]
        self.assert_places(great, little, [(0, 0), (1, 1)])
        great.append("aa")
        self.assert_places(great, little, [(0, 0), (1, 1), (2, 0), (2, 1)])
        little[0] = "b"
        self.assert_places(great, little, [(0, 1), (1, 0)])
        little.append("a")
        self.assert_places(great, little, [(0, 1), (1, 0)])

    def test_what_is_handed_in_is_not_changed(self):
        great, little = wide_table(40, 40, "ab"), ["a?", "?b"]
        before = deepcopy((great, little))
        all_places(great, little)
        stands_at(great, little, (3, 4))
        self.assertEqual((great, little), before)

    def test_one_list_as_both(self):
        great = ["ab", "cd"]
        self.assert_places(great, great, [(0, 0)])


class StandsAt(unittest.TestCase):

    def test_plain_examples(self):
        self.assertIs(stands_at(GREAT, ["ab", "ca"], (0, 3)), True)
        self.assertIs(stands_at(GREAT, ["ab", "ca"], (0, 1)), False)
        self.assertIs(stands_at(GREAT, ["a?", "?a"], (1, 1)), True)
        self.assertIs(stands_at(GREAT, GREAT, (0, 0)), True)

    def test_small_tables(self):
        littles = small_tables(2, 2, "ab?")
        for great in small_tables(2, 2, "ab") + [["abb"], ["a", "a", "b"]]:
            signs = signs_by_cells(great)
            for little in littles:
                parts = signs_by_cells(little)
                for cell in cells_around(great, 2):
                    self.assertIs(stands_at(great, little, cell), stands_by_cells(signs, parts, cell))

    def test_a_cell_ahead_of_the_first_is_none(self):
        great = ["ab", "cd"]
        for little, cell in (
            (["b"], (0, -1)), (["a"], (0, -2)), (["c"], (-1, 0)), (["a"], (-2, 0)), (["d"], (-1, -1)),
            (["ab"], (0, -2)), (["ab"], (-2, 0)), (["ba"], (0, -1)), (["c", "a"], (-1, 0)), (["?"], (-1, 0)),
            (["?"], (0, -1)), (["?a"], (0, -1)), (["?", "a"], (-1, 0)),
            (["dc", "ba"], (-1, -1)), (["??", "?a"], (-1, -1)),
        ):
            self.assertIs(stands_at(great, little, cell), False, (little, cell))

    def test_a_cell_behind_the_last_is_none(self):
        great = ["ab", "cd"]
        for little, cell in (
            (["a"], (0, 2)), (["a"], (2, 0)), (["?"], (0, 2)), (["?"], (2, 0)), (["?"], (2, 2)), (["b?"], (0, 1)),
            (["c", "?"], (1, 0)), (["d?", "??"], (1, 1)), (["?"], (0, 40)), (["?"], (40, 0)), (["ba"], (0, 1)),
        ):
            self.assertIs(stands_at(great, little, cell), False, (little, cell))

    def test_far_cells(self):
        for far in (41, 100, 10 ** 9, 2 ** 63, FAR, -1, -41, -10 ** 9, -2 ** 63, -FAR):
            for cell in ((far, 0), (0, far), (far, far), (far, -far)):
                for little in (["a"], ["?"], ["abcab"], ["??", "??"]):
                    self.assertIs(stands_at(GREAT, little, cell), False, cell)

    def test_more_rows_or_columns_than_the_great_one(self):
        for little in (["a", "?", "?", "?"], ["a?????"], ["?" * 12] * 12):
            for cell in cells_around(GREAT, 12):
                self.assertIs(stands_at(GREAT, little, cell), False)

    def test_it_stands_where_all_places_tells(self):
        great = wide_table(40, 40, "ab")
        for little in (["a"], ["ab", "?a"], freed(part_of(great, 28, 28, 12, 12), 2), ["?" * 12] * 12):
            places = all_places(great, little)
            self.assertNotEqual(places, [])
            for cell in cells_around(great, 1):
                self.assertIs(stands_at(great, little, cell), cell in places)

    def test_the_same_again(self):
        great = ["ab", "ba"]
        for _ in range(2):
            self.assertIs(stands_at(great, ["a"], (1, 1)), True)
            self.assertIs(stands_at(great, ["a"], (1, 0)), False)
        great[1] = "ab"
        self.assertIs(stands_at(great, ["a"], (1, 1)), False)
        self.assertIs(stands_at(great, ["a"], (1, 0)), True)


class Refused(unittest.TestCase):

    def test_what_is_no_great_table(self):
        for thing in no_tables():
            assert_refused(self, "NoTable", all_places, thing, ["a"])
            assert_refused(self, "NoTable", stands_at, thing, ["a"], (0, 0))

    def test_what_is_no_little_table(self):
        for thing in no_littles():
            assert_refused(self, "NoTable", all_places, GREAT, thing)
            assert_refused(self, "NoTable", stands_at, GREAT, thing, (0, 0))

    def test_neither(self):
        for thing in no_littles():
            for other in (None, ["a b"], ["ab", "c"], [], thing):
                assert_refused(self, "NoTable", all_places, thing, other)
                assert_refused(self, "NoTable", stands_at, other, thing, (0, 0))

    def test_a_free_cell_in_the_great_table(self):
        for great in (["?"], ["ab", "a?"], freed(wide_table(40, 40, "ab"), 1600)):
            for little in (["a"], ["?"], ["a?"]):
                assert_refused(self, "NoTable", all_places, great, little)
                assert_refused(self, "NoTable", stands_at, great, little, (0, 0))

    def test_a_little_table_without_a_place_is_refused_all_the_same(self):
        assert_refused(self, "NoTable", all_places, ["a"], ["ab", "c"])
        assert_refused(self, "NoTable", all_places, ["a"], ["b "])
        assert_refused(self, "NoTable", stands_at, ["a"], ["b "], (7, 7))
        assert_refused(self, "NoTable", stands_at, ["a"], ["b "], (-1, -1))

    def test_no_table_goes_ahead_of_all_else(self):
        for cell in (None, "0.0", (0,), [0, 0]):
            assert_refused(self, "NoTable", stands_at, ["?"], ["a"], cell)
            assert_refused(self, "NoTable", stands_at, ["a"], [" "], cell)


if __name__ == "__main__":
    unittest.main()
