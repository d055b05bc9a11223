"""Points 1 to 4, 16 and 17: where a little table nearly stands."""

import unittest

from tablefind.anypose import cell_posed
from tablefind.near import near_cells, nearest_cells, unlike_at
from tablefind.places import all_places, stands_at
from tablefind.poses import posed
from tests.by_cells import signs_by_cells, unlike_by_cells
from tests.samples import (
    FAR, POSES, SIGNS, assert_cells, assert_great_one_first, assert_refused, assert_told_anew, freed, no_cells,
    no_littles, no_tables, no_wholes, pairs_of_many_sizes, part_of, small_tables, wide_table,
)

GREAT = [
    "abcab",
    "cabca",
    "bcabc",
]


def cells_of_size(rows, columns):
    return [(i, j) for i in range(rows) for j in range(columns)]


class UnlikeAt(unittest.TestCase):

    def assert_unlike(self, great, little, cell, number):
        told = unlike_at(great, little, cell)
        self.assertEqual(told, number, (great, little, cell))
        self.assertIs(type(told), int)

    def test_plain_examples(self):
        self.assert_unlike(GREAT, ["a"], (0, 0), 0)
        self.assert_unlike(GREAT, ["a"], (0, 1), 1)
        self.assert_unlike(GREAT, ["A"], (0, 0), 1)
        self.assert_unlike(GREAT, ["abc"], (0, 0), 0)
        self.assert_unlike(GREAT, ["abb"], (0, 0), 1)
        self.assert_unlike(GREAT, ["abc"], (0, 1), 3)
        self.assert_unlike(GREAT, ["aba"], (0, 2), 3)
        self.assert_unlike(GREAT, ["ab", "cb"], (0, 3), 1)
        self.assert_unlike(GREAT, ["ab", "ca"], (1, 1), 0)
        self.assert_unlike(GREAT, ["xx", "xx"], (1, 3), 4)
        self.assert_unlike(GREAT, ["x?", "?x"], (1, 3), 2)
        self.assert_unlike(GREAT, GREAT, (0, 0), 0)
        self.assert_unlike(GREAT, GREAT[::-1], (0, 0), 10)
        self.assert_unlike(["a"], ["a"], (0, 0), 0)
        self.assert_unlike(["a"], ["b"], (0, 0), 1)
        self.assert_unlike(["a"], ["?"], (0, 0), 0)

    def test_a_free_cell_is_unlike_nothing(self):
        for cell in cells_of_size(3, 5):
            self.assert_unlike(GREAT, ["?"], cell, 0)
        for cell in cells_of_size(2, 4):
            self.assert_unlike(GREAT, ["??", "??"], cell, 0)
            self.assert_unlike(GREAT, ["x?", "??"], cell, 1)
            self.assert_unlike(GREAT, ["??", "?x"], cell, 1)
            self.assert_unlike(GREAT, ["?x", "x?"], cell, 2)

    def test_small_tables(self):
        littles = small_tables(2, 2, "ab?") + [["ab?"], ["a?a"], ["abb", "?ab"]]
        for great in small_tables(2, 3, "ab") + [["abab", "babb", "aaba"]]:
            for little in littles:
                unlike = unlike_by_cells(great, little)
                for cell in cells_of_size(len(great), len(great[0])):
                    if cell in unlike:
                        self.assert_unlike(great, little, cell, unlike[cell])
                    else:
                        assert_refused(self, "NoCell", unlike_at, great, little, cell)

    def test_many_sizes(self):
        for great, little in pairs_of_many_sizes():
            for cell, number in unlike_by_cells(great, little).items():
                self.assert_unlike(great, little, cell, number)

    def test_great_sizes(self):
        great = ["a" * 40] * 40
        self.assert_unlike(great, great, (0, 0), 0)
        for cell in ((0, 0), (28, 28), (0, 28), (28, 0), (13, 7)):
            self.assert_unlike(great, ["b" * 12] * 12, cell, 144)
            self.assert_unlike(great, ["b" * 12] * 11 + ["b" * 11 + "a"], cell, 143)
            self.assert_unlike(great, ["a" * 12] * 11 + ["a" * 11 + "b"], cell, 1)
            self.assert_unlike(great, ["b?" * 6] * 12, cell, 72)

    def test_the_last_cells_at_which_it_lies_wholly(self):
        for little, last in ((["x"], (2, 4)), (["xx"], (2, 3)), (["x", "x"], (1, 4)), (["xxx"] * 2, (1, 2)),
                             (["?x", "x?"], (1, 3)), (["xxxxx"] * 3, (0, 0)), (["x????"], (2, 0))):
            i, j = last
            self.assertGreater(unlike_at(GREAT, little, last), 0)
            assert_refused(self, "NoCell", unlike_at, GREAT, little, (i + 1, j))
            assert_refused(self, "NoCell", unlike_at, GREAT, little, (i, j + 1))

    def test_it_is_none_where_the_little_table_stands(self):
        for great, little in pairs_of_many_sizes():
            for cell in unlike_by_cells(great, little):
                self.assertIs(unlike_at(great, little, cell) == 0, stands_at(great, little, cell))

    def test_lists_that_were_changed_are_asked_anew(self):
        great, little = ["ab"], ["bb"]
        self.assert_unlike(great, little, (0, 0), 1)
        great[0] = "bb"
        self.assert_unlike(great, little, (0, 0), 0)
        little[0] = "?a"
        self.assert_unlike(great, little, (0, 0), 1)
        assert_told_anew(self, unlike_at, great, little, (0, 0))


class NearestCells(unittest.TestCase):

    def assert_nearest(self, great, little, number, cells):
        told = nearest_cells(great, little)
        self.assertIs(type(told), tuple)
        self.assertEqual(len(told), 2)
        self.assertEqual(told[0], number, (great, little))
        self.assertIs(type(told[0]), int)
        assert_cells(self, told[1], cells, (great, little))

    def assert_by_cells(self, great, little):
        unlike = unlike_by_cells(great, little)
        if not unlike:
            self.assertIs(nearest_cells(great, little), None)
            return
        least = min(unlike.values())
        self.assert_nearest(great, little, least, sorted([cell for cell in unlike if unlike[cell] == least]))

    def test_plain_examples(self):
        self.assert_nearest(GREAT, ["a"], 0, [(0, 0), (0, 3), (1, 1), (1, 4), (2, 2)])
        self.assert_nearest(GREAT, ["ab", "ca"], 0, [(0, 0), (0, 3), (1, 1)])
        self.assert_nearest(GREAT, ["x"], 1, cells_of_size(3, 5))
        self.assert_nearest(GREAT, ["xb"], 1, [(0, 0), (0, 3), (1, 1), (2, 2)])
        self.assert_nearest(GREAT, ["acb"], 2, cells_of_size(3, 3))
        self.assert_nearest(GREAT, ["xbc", "?xb"], 2, [(0, 0), (1, 1)])
        self.assert_nearest(GREAT, GREAT, 0, [(0, 0)])
        self.assert_nearest(GREAT, GREAT[::-1], 10, [(0, 0)])
        self.assert_nearest(["abba"], ["aa"], 1, [(0, 0), (0, 2)])
        self.assert_nearest(["a"], ["b"], 1, [(0, 0)])

    def test_free_cells_alone(self):
        self.assert_nearest(GREAT, ["?"], 0, cells_of_size(3, 5))
        self.assert_nearest(GREAT, ["??", "??"], 0, cells_of_size(2, 4))
        self.assert_nearest(GREAT, ["?????"] * 3, 0, [(0, 0)])
        self.assertIs(nearest_cells(GREAT, ["??????"]), None)
        self.assertIs(nearest_cells(GREAT, ["?"] * 4), None)

    def test_one_that_lies_nowhere(self):
        for great, little in ((["a"], ["aa"]), (["a"], ["a", "a"]), (["a" * 40], ["a", "a"]), (["a"] * 40, ["aa"]),
                              (GREAT, ["a"] * 4), (GREAT, ["a" * 6]), (GREAT, ["?" * 12] * 12), (["a"], ["x"] * 12)):
            self.assertIs(nearest_cells(great, little), None)
            self.assertIs(nearest_cells(great, little), None)

    def test_small_tables(self):
        littles = small_tables(2, 2, "ab?") + [["ab?"], ["a?a"], ["abb", "?ab"], ["a", "b", "c"]]
        for great in small_tables(2, 3, "ab") + [["abab", "babb", "aaba"]]:
            for little in littles:
                self.assert_by_cells(great, little)

    def test_many_sizes(self):
        for great, little in pairs_of_many_sizes():
            self.assert_by_cells(great, little)

    def test_great_sizes(self):
        every = cells_of_size(29, 29)
        self.assert_nearest(["a" * 40] * 40, ["a" * 12] * 12, 0, every)
        self.assert_nearest(["a" * 40] * 40, ["b" * 12] * 12, 144, every)
        self.assert_nearest(["a" * 40] * 40, ["b" * 12] * 11 + ["b" * 10 + "a?"], 142, every)
        self.assert_nearest(["a" * 40] * 39 + ["a" * 39 + "b"], ["b" * 12] * 12, 143, [(28, 28)])
        self.assert_nearest(["b" + "a" * 39] + ["a" * 40] * 39, ["b" * 12] * 12, 143, [(0, 0)])
        for signs in ("ab", SIGNS):
            great = wide_table(40, 40, signs)
            for i, j in ((0, 0), (28, 28), (17, 9)):
                part = part_of(great, i, j, 12, 12)
                wrong = [("!" if row[0] != "!" else "~") + row[1:] for row in part]
                for little in (part, wrong, freed(wrong, 5), wrong[:1], [row[:1] for row in wrong]):
                    self.assert_by_cells(great, little)

    def test_none_is_nearer_than_told(self):
        for great, little in pairs_of_many_sizes():
            told = nearest_cells(great, little)
            if told is None:
                self.assertEqual(near_cells(great, little, FAR), [])
                continue
            number, cells = told
            self.assertNotEqual(cells, [])
            self.assertEqual(near_cells(great, little, number), cells)
            if number > 0:
                self.assertEqual(near_cells(great, little, number - 1), [])
            if number == 0:
                self.assertEqual(cells, all_places(great, little))

    def test_turned_it_is_as_near(self):
        for little in (["ac"], ["abx", "?ca"], ["x", "a", "b"], ["a?", "?x"], ["a"]):
            number, cells = nearest_cells(GREAT, little)
            for pose in POSES:
                told, others = nearest_cells(posed(GREAT, pose), posed(little, pose))
                self.assertEqual((told, len(others)), (number, len(cells)))
                for cell in cells_of_size(len(little), len(little[0])):
                    gone = [cell_posed(GREAT, (i + cell[0], j + cell[1]), pose) for i, j in cells]
                    r, c = cell_posed([row.replace("?", ".") for row in little], cell, pose)
                    self.assertEqual(sorted(gone), [(i + r, j + c) for i, j in others])

    def test_told_anew(self):
        for little in (["ab"], ["x"], ["?"], ["xb"], ["a"] * 4, GREAT):
            assert_told_anew(self, nearest_cells, list(GREAT), little)

    def test_lists_that_were_changed_are_asked_anew(self):
        great, little = ["ab"], ["bb"]
        self.assert_nearest(great, little, 1, [(0, 0)])
        great.append("bb")
        self.assert_nearest(great, little, 0, [(1, 0)])
        little.append("b?")
        self.assert_nearest(great, little, 1, [(0, 0)])
        little.append("??")
        self.assertIs(nearest_cells(great, little), None)


class NearCells(unittest.TestCase):

    def assert_near(self, great, little, k, cells):
        assert_cells(self, near_cells(great, little, k), cells, (great, little, k))

    def assert_by_cells(self, great, little):
        unlike = unlike_by_cells(great, little)
        for k in sorted({0, 1, 2, 3, 144} | {max(0, number + by) for number in unlike.values() for by in (-1, 0, 1)}):
            self.assert_near(great, little, k, sorted([cell for cell in unlike if unlike[cell] <= k]))

    def test_plain_examples(self):
        self.assert_near(GREAT, ["ab", "ca"], 0, [(0, 0), (0, 3), (1, 1)])
        self.assert_near(GREAT, ["ab", "cb"], 0, [])
        self.assert_near(GREAT, ["ab", "cb"], 1, [(0, 0), (0, 3), (1, 1)])
        self.assert_near(GREAT, ["ab", "cb"], 2, [(0, 0), (0, 3), (1, 1)])
        self.assert_near(GREAT, ["ab", "cb"], 3, [(0, 0), (0, 1), (0, 3), (1, 1), (1, 2)])
        self.assert_near(GREAT, ["ab", "cb"], 4, cells_of_size(2, 4))
        self.assert_near(GREAT, ["a"], 0, [(0, 0), (0, 3), (1, 1), (1, 4), (2, 2)])
        self.assert_near(GREAT, ["a"], 1, cells_of_size(3, 5))
        self.assert_near(["abba"], ["aa"], 0, [])
        self.assert_near(["abba"], ["aa"], 1, [(0, 0), (0, 2)])
        self.assert_near(["abba"], ["aa"], 2, [(0, 0), (0, 1), (0, 2)])

    def test_great_numbers(self):
        for k in (15, 144, 145, 10 ** 9, 2 ** 31, 2 ** 63, 2 ** 64 + 1, FAR):
            self.assert_near(GREAT, ["xx", "xx"], k, cells_of_size(2, 4))
            self.assert_near(GREAT, ["x"], k, cells_of_size(3, 5))
            self.assert_near(GREAT, ["x"] * 4, k, [])

    def test_free_cells_alone(self):
        for k in (0, 1, 7, FAR):
            self.assert_near(GREAT, ["?"], k, cells_of_size(3, 5))
            self.assert_near(GREAT, ["??", "??"], k, cells_of_size(2, 4))
            self.assert_near(GREAT, ["?"] * 4, k, [])

    def test_one_that_lies_nowhere(self):
        for great, little in ((["a"], ["aa"]), (["a"], ["a", "a"]), (["a" * 40], ["a", "a"]), (["a"] * 40, ["aa"]),
                              (GREAT, ["a"] * 4), (GREAT, ["?" * 12] * 12)):
            for k in (0, 1, 144, FAR):
                self.assert_near(great, little, k, [])

    def test_small_tables(self):
        littles = small_tables(2, 2, "ab?") + [["ab?"], ["a?a"], ["abb", "?ab"], ["a", "b", "c"]]
        for great in small_tables(2, 3, "ab") + [["abab", "babb", "aaba"]]:
            for little in littles:
                self.assert_by_cells(great, little)

    def test_many_sizes(self):
        for great, little in pairs_of_many_sizes():
            self.assert_by_cells(great, little)

    def test_great_sizes(self):
        every = cells_of_size(29, 29)
        great = ["a" * 40] * 40
        self.assert_near(great, ["a" * 12] * 12, 0, every)
        self.assert_near(great, ["b" * 12] * 12, 143, [])
        self.assert_near(great, ["b" * 12] * 12, 144, every)
        self.assert_near(great, ["b?" * 6] * 12, 71, [])
        self.assert_near(great, ["b?" * 6] * 12, 72, every)
        great = wide_table(40, 40, "ab")
        little = freed(part_of(great, 11, 12, 12, 12), 7)
        unlike = unlike_by_cells(great, little)
        for k in (0, 1, 50, 60, 70, 100):
            self.assert_near(great, little, k, sorted([cell for cell in unlike if unlike[cell] <= k]))

    def test_as_unlike_at_tells(self):
        for great, little in pairs_of_many_sizes():
            cells = sorted([cell for cell in signs_by_cells(great) if cell in near_cells(great, little, FAR)])
            near = [cell for cell in cells if unlike_at(great, little, cell) <= 2]
            self.assertEqual(near_cells(great, little, 2), near)
            self.assertEqual(near_cells(great, little, 0), all_places(great, little))

    def test_told_anew(self):
        for little in (["ab"], ["x"], ["?"], ["a"] * 4, GREAT):
            for k in (0, 1, FAR):
                assert_told_anew(self, near_cells, list(GREAT), little, k)


class Refused(unittest.TestCase):

    def test_what_is_no_great_table(self):
        for thing in no_tables():
            assert_refused(self, "NoTable", unlike_at, thing, ["a"], (0, 0))
            assert_refused(self, "NoTable", nearest_cells, thing, ["a"])
            assert_refused(self, "NoTable", near_cells, thing, ["a"], 1)

    def test_what_is_no_little_table(self):
        for thing in no_littles():
            for great in (GREAT, ["?"], thing):
                assert_refused(self, "NoTable", unlike_at, great, thing, (0, 0))
                assert_refused(self, "NoTable", nearest_cells, great, thing)
                assert_refused(self, "NoTable", near_cells, great, thing, 1)
        assert_great_one_first(self, unlike_at, (0, 0))
        assert_great_one_first(self, nearest_cells)
        assert_great_one_first(self, near_cells, 1)

    def test_a_little_table_that_lies_nowhere_is_refused_all_the_same(self):
        for thing in (["ab", "c"], ["b "], ["b" * 50 + " "], [""]):
            assert_refused(self, "NoTable", nearest_cells, ["a"], thing)
            assert_refused(self, "NoTable", near_cells, ["a"], thing, 0)

    def test_what_is_no_cell(self):
        for great, little, rows, columns in (
            (GREAT, ["a"], 3, 5), (GREAT, ["?"], 3, 5), (GREAT, ["ab", "ca"], 2, 4), (GREAT, ["??", "??"], 2, 4),
            (GREAT, GREAT, 1, 1), (["a"], ["a"], 1, 1), (["a" * 40] * 40, ["a" * 12] * 12, 29, 29),
        ):
            for thing in no_cells(rows, columns):
                assert_refused(self, "NoCell", unlike_at, great, little, thing)

    def test_one_that_lies_nowhere_has_no_cell(self):
        for great, little in ((["a"], ["aa"]), (["a"], ["?", "?"]), (GREAT, ["a"] * 4), (GREAT, ["?" * 6])):
            for thing in no_cells(3, 5) + cells_of_size(3, 5):
                assert_refused(self, "NoCell", unlike_at, great, little, thing)

    def test_what_is_no_number(self):
        for thing in no_wholes() + [-1, -2, -41, -10 ** 9, -2 ** 63, -FAR]:
            for little in (["a"], ["?"], ["ab", "ca"], ["x"], ["a"] * 4, ["?" * 12] * 12):
                assert_refused(self, "NoNumber", near_cells, GREAT, little, thing)

    def test_no_table_goes_ahead_of_all_else(self):
        for great, little in ((None, ["a"]), (["?"], ["a"]), (["a"], ["ab", "c"]), (["a"], []), (["a"], ("a",))):
            for cell in no_cells(1, 1):
                assert_refused(self, "NoTable", unlike_at, great, little, cell)
            for number in no_wholes() + [-1]:
                assert_refused(self, "NoTable", near_cells, great, little, number)

    def test_a_refusal_changes_nothing(self):
        great, little = list(GREAT), ["ab"]
        assert_refused(self, "NoCell", unlike_at, great, little, (0, 4))
        assert_refused(self, "NoNumber", near_cells, great, little, -1)
        assert_refused(self, "NoTable", nearest_cells, great, None)
        self.assertEqual((great, little), (GREAT, ["ab"]))
        self.assertEqual(near_cells(great, little, 0), [(0, 0), (0, 3), (1, 1), (2, 2)])


if __name__ == "__main__":
    unittest.main()
