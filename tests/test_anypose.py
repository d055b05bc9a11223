"""Points 1 to 4, 10 and 11: places in any pose, and where cells go in a pose."""

import unittest
from copy import deepcopy

from tablefind.anypose import cell_posed, places_posed
from tablefind.places import all_places
from tablefind.poses import pose_back, pose_behind, posed, unlike_poses
from tests.by_cells import cells_as_they_go, covered_by_cells, posed_by_cells, posed_places_by_cells, signs_by_cells
from tests.samples import (
    POSES, SIGNS, assert_cell, assert_great_one_first, assert_refused, assert_told_anew, freed, no_cells, no_littles,
    no_poses, no_tables, pairs_of_many_sizes, part_of, small_tables, wide_table,
)

GREAT = [
    "abcab",
    "cabca",
    "bcabc",
]

# Where the cells of a table of two rows and three columns go.
GONE = {
    "0": [(0, 0), (0, 1), (0, 2), (1, 0), (1, 1), (1, 2)],
    "1": [(0, 1), (1, 1), (2, 1), (0, 0), (1, 0), (2, 0)],
    "2": [(1, 2), (1, 1), (1, 0), (0, 2), (0, 1), (0, 0)],
    "3": [(2, 0), (1, 0), (0, 0), (2, 1), (1, 1), (0, 1)],
    "m0": [(0, 2), (0, 1), (0, 0), (1, 2), (1, 1), (1, 0)],
    "m1": [(2, 1), (1, 1), (0, 1), (2, 0), (1, 0), (0, 0)],
    "m2": [(1, 0), (1, 1), (1, 2), (0, 0), (0, 1), (0, 2)],
    "m3": [(0, 0), (1, 0), (2, 0), (0, 1), (1, 1), (2, 1)],
}


def cells_lain_on(little, place):
    """The cells on which it lies at the place in its pose, and those of them that it covers."""
    i, j, pose = place
    rows = posed_by_cells(little, pose)
    return [(i + r, j + c) for r, c in signs_by_cells(rows)], list(covered_by_cells(rows, (i, j)))


def lain_on_behind(great, little, pose):
    """For each place of the little table in the great one: what it lies on and covers, gone by the pose."""
    gone = {cell: cell_posed(great, cell, pose) for cell in signs_by_cells(great)}
    told = []
    for place in places_posed(great, little):
        whole, covered = cells_lain_on(little, place)
        told.append((sorted([gone[cell] for cell in whole]), sorted([gone[cell] for cell in covered])))
    return sorted(told)


class PlacesPosed(unittest.TestCase):

    def assert_places(self, great, little, places):
        told = places_posed(great, little)
        self.assertEqual(told, places, (great, little))
        self.assertIs(type(told), list)
        for place in told:
            self.assertIs(type(place), tuple)
            self.assertEqual([type(part) for part in place], [int, int, str])

    def test_plain_examples(self):
        self.assert_places(["ab", "ba"], ["ab"], [(0, 0, "0"), (0, 0, "1"), (0, 1, "3"), (1, 0, "2")])
        self.assert_places(["aab", "baa"], ["ab", "?a"], [(0, 0, "2"), (0, 1, "0")])
        self.assert_places(GREAT, ["ac"], [(0, 0, "1"), (0, 2, "2"), (0, 3, "1"), (1, 0, "2"), (1, 1, "1"),
                                           (1, 3, "2"), (1, 4, "1"), (2, 1, "2")])
        self.assert_places(GREAT, ["abc"], [(0, 0, "0"), (0, 2, "3"), (1, 1, "0"), (2, 2, "0")])
        self.assert_places(["abc"], ["cba"], [(0, 0, "2")])
        self.assert_places(["abc"], ["c", "b", "a"], [(0, 0, "1")])
        self.assert_places(["abc"], ["a", "b", "c"], [(0, 0, "3")])
        self.assert_places(["a"], ["a"], [(0, 0, "0")])
        self.assert_places(["a"], ["?"], [(0, 0, "0")])
        self.assert_places(["a"], ["b"], [])
        self.assert_places(GREAT, GREAT, [(0, 0, "0")])

    def test_by_cells_and_then_by_the_order_of_the_poses(self):
        wide, high = ["0", "2", "m0", "m2"], ["1", "3", "m1", "m3"]
        self.assert_places(["aaa"] * 3, ["aa?", "???"], [(0, 0, pose) for pose in POSES]
                           + [(0, 1, pose) for pose in high] + [(1, 0, pose) for pose in wide])
        self.assert_places(["aa"] * 2, ["a?", "??"], [(0, 0, pose) for pose in "0123"])
        self.assert_places(["aa"] * 3, ["a?", "??"], [(i, 0, pose) for i in range(2) for pose in "0123"])

    def test_a_table_that_holds_each_pose_of_one(self):
        little = ["abc", "def"]
        for pose in POSES:
            self.assert_places(posed_by_cells(little, pose), little, [(0, 0, pose)])
            self.assert_places(little, posed_by_cells(little, pose), [(0, 0, pose_back(pose))])

    def test_poses_that_leave_it_as_it_is_are_told_once(self):
        great = ["aaa", "aba", "aaa"]
        self.assert_places(great, ["b"], [(1, 1, "0")])
        self.assert_places(great, great, [(0, 0, "0")])
        self.assert_places(great, ["?a?", "aba", "?a?"], [(0, 0, "0")])
        self.assert_places(great, ["aba"], [(0, 1, "1"), (1, 0, "0")])
        self.assert_places(great, ["aaa"], [(0, 0, "0"), (0, 0, "1"), (0, 2, "1"), (2, 0, "0")])
        self.assert_places(great, ["ab"], [(0, 1, "1"), (1, 0, "0"), (1, 1, "2"), (1, 1, "3")])
        self.assert_places(great, ["aa", "ab"], [(0, 0, "0"), (0, 1, "1"), (1, 0, "3"), (1, 1, "2")])
        self.assert_places(["aba", "bab"], ["ab", "ba"], [(0, 0, "0"), (0, 1, "1")])
        self.assert_places(["aab", "baa"], ["aab", "baa"], [(0, 0, "0")])
        self.assert_places(["baa", "aab"], ["aab", "baa"], [(0, 0, "m0")])

    def test_free_cells_alone(self):
        self.assert_places(["abc", "def"], ["?"], [(i, j, "0") for i in range(2) for j in range(3)])
        self.assert_places(["abc", "def"], ["??", "??"], [(0, 0, "0"), (0, 1, "0")])
        self.assert_places(["abc", "def"], ["??"], [(0, 0, "0"), (0, 0, "1"), (0, 1, "0"), (0, 1, "1"),
                                                    (0, 2, "1"), (1, 0, "0"), (1, 1, "0")])
        self.assert_places(["abc", "def"], ["???"], [(0, 0, "0"), (1, 0, "0")])
        self.assert_places(["abc", "def"], ["?", "?", "?"], [(0, 0, "1"), (1, 0, "1")])
        self.assert_places(["abc", "def"], ["????"], [])
        self.assert_places(["abc", "def"], ["???"] * 3, [])

    def test_one_that_lies_in_the_great_one_in_some_poses_only(self):
        self.assert_places(["aaaa"], ["aa"], [(0, 0, "0"), (0, 1, "0"), (0, 2, "0")])
        self.assert_places(["aaaa"], ["a", "a"], [(0, 0, "1"), (0, 1, "1"), (0, 2, "1")])
        self.assert_places(["a"] * 40, ["a" * 12], [(i, 0, "1") for i in range(29)])
        self.assert_places(["a" * 40], ["a"] * 12, [(0, j, "1") for j in range(29)])
        self.assert_places(["aaaa"], ["aa", "aa"], [])
        self.assert_places(["aaaa"], ["aaaaa"], [])

    def test_small_tables(self):
        littles = small_tables(2, 2, "ab?") + [["ab?"], ["a?a"], ["abb", "?ab"], ["abb", "aba", "?bb"]]
        for great in small_tables(2, 3, "ab") + [["abab", "babb", "aaba"], ["abb", "bab", "aab", "abb"]]:
            for little in littles:
                self.assert_places(great, little, posed_places_by_cells(great, little))

    def test_many_sizes(self):
        for great, little in pairs_of_many_sizes():
            self.assert_places(great, little, posed_places_by_cells(great, little))

    def test_great_sizes(self):
        for signs in ("ab", SIGNS):
            great = wide_table(40, 40, signs)
            for little in (part_of(great, 28, 28, 12, 12), freed(part_of(great, 0, 28, 12, 12), 2),
                           part_of(great, 5, 6, 1, 12), freed(part_of(great, 30, 39, 10, 1), 3), ["ab", "?a"]):
                for pose in POSES:
                    mine = posed_by_cells(little, pose)
                    self.assert_places(great, mine, posed_places_by_cells(great, mine))

    def test_all_signs_alike_in_the_greatest(self):
        great = ["a" * 40] * 40
        cells = [(i, j) for i in range(29) for j in range(29)]
        self.assert_places(great, ["a" * 12] * 12, [(i, j, "0") for i, j in cells])
        rest = ["a" * 12] * 11
        self.assert_places(great, ["?a" + "a" * 10] + rest, [(i, j, pose) for i, j in cells for pose in "0123"])
        self.assert_places(great, ["a?" + "a" * 10] + rest, [(i, j, pose) for i, j in cells for pose in POSES])
        self.assert_places(great, ["ab" + "a" * 10] + ["a" * 12] * 11, [])

    def test_each_told_place_is_one_in_an_unlike_pose(self):
        for great, little in pairs_of_many_sizes():
            told = places_posed(great, little)
            for pose in POSES:
                mine = [(i, j) for i, j, one in told if one == pose]
                if pose in unlike_poses(little):
                    self.assertEqual(mine, all_places(great, posed(little, pose)))
                else:
                    self.assertEqual(mine, [])

    def test_sizes_somewhat_beyond(self):
        self.assert_places(["a" * 41] * 41, ["a" * 41] * 40, [(0, 0, "0"), (0, 0, "1"), (0, 1, "1"), (1, 0, "0")])
        self.assert_places(["a" * 13] * 13, ["a" * 13] * 13, [(0, 0, "0")])

    def test_told_anew(self):
        for little in (["ab"], ["a"], ["x"], ["a?", "?a"], ["?"] * 4):
            assert_told_anew(self, places_posed, list(GREAT), little)
        self.assert_places(["ab", "ba"], ["ab"], [(0, 0, "0"), (0, 0, "1"), (0, 1, "3"), (1, 0, "2")])

    def test_lists_that_were_changed_are_asked_anew(self):
        great, little = ["ab"], ["b"]
        self.assert_places(great, little, [(0, 1, "0")])
        great.append("bc")
        self.assert_places(great, little, [(0, 1, "0"), (1, 0, "0")])
        little[0] = "bc"
        self.assert_places(great, little, [(0, 1, "1"), (1, 0, "0")])


class BothInOnePose(unittest.TestCase):

    def assert_turned(self, great, little):
        before = lain_on_behind(great, little, "0")
        self.assertEqual(len(before), len(places_posed(great, little)))
        for pose in POSES:
            other, mine = posed(great, pose), posed(little, pose)
            self.assertEqual(lain_on_behind(other, mine, "0"), lain_on_behind(great, little, pose), (great, little))
            # In any pose it makes no difference in which one the little table is handed in.
            self.assertEqual(lain_on_behind(great, mine, "0"), before)

    def test_plain_examples(self):
        for little in (["a"], ["ab"], ["ac"], ["abc"], ["a?c"], ["ab", "?a"], ["a", "c", "b"], ["?"], ["??"], ["x"]):
            self.assert_turned(GREAT, little)

    def test_small_tables(self):
        for great in (["ab"], ["aab", "bba"], ["aba", "bab", "aab"], ["abba"], ["a", "b", "b"]):
            for little in small_tables(2, 2, "ab?"):
                self.assert_turned(great, little)

    def test_greater_ones(self):
        for great in (wide_table(9, 11, "ab"), wide_table(1, 40, "ab"), wide_table(40, 1, "abc"),
                      wide_table(12, 7, SIGNS)):
            for little in (["ab"], ["ab?", "?ba"], ["a", "?", "b"], part_of(great, 0, 0, 4, 5), freed(great[:3], 2)):
                self.assert_turned(great, little)


class CellPosed(unittest.TestCase):

    def test_all_poses_of_all_cells_of_one_table(self):
        for pose, gone in GONE.items():
            told = [cell_posed(["abc", "def"], (i, j), pose) for i in range(2) for j in range(3)]
            for one, cell in zip(told, gone):
                assert_cell(self, one, cell, pose)

    def test_one_cell_one_row_one_column(self):
        for pose in POSES:
            assert_cell(self, cell_posed(["a"], (0, 0), pose), (0, 0))
        gone = [cell_posed(["a" * 40], (0, 3), pose) for pose in POSES]
        self.assertEqual(gone, [(0, 3), (3, 0), (0, 36), (36, 0), (0, 36), (36, 0), (0, 3), (3, 0)])
        gone = [cell_posed(["a"] * 40, (3, 0), pose) for pose in POSES]
        self.assertEqual(gone, [(3, 0), (0, 36), (36, 0), (0, 3), (3, 0), (0, 36), (36, 0), (0, 3)])

    def test_many_sizes(self):
        for rows, columns in ((1, 1), (1, 2), (2, 1), (2, 2), (1, 40), (40, 1), (3, 5), (5, 3), (12, 12),
                              (39, 40), (40, 40)):
            great = ["a" * columns] * rows
            for pose in POSES:
                for cell, gone in cells_as_they_go(rows, columns, pose).items():
                    assert_cell(self, cell_posed(great, cell, pose), gone)

    def test_the_sign_goes_with_the_cell(self):
        for great in (GREAT, wide_table(7, 12, SIGNS), wide_table(12, 7, SIGNS), wide_table(8, 8, SIGNS)):
            for pose in POSES:
                other = posed(great, pose)
                for (i, j), sign in signs_by_cells(great).items():
                    r, c = cell_posed(great, (i, j), pose)
                    self.assertEqual(other[r][c], sign)

    def test_poses_one_behind_the_other(self):
        for cell in ((0, 0), (0, 4), (2, 0), (2, 4), (1, 2), (1, 3)):
            for one in POSES:
                gone = cell_posed(GREAT, cell, one)
                other_table = posed(GREAT, one)
                self.assertEqual(cell_posed(other_table, gone, pose_back(one)), cell)
                for other in POSES:
                    self.assertEqual(cell_posed(other_table, gone, other),
                                     cell_posed(GREAT, cell, pose_behind(one, other)))

    def test_what_is_handed_in_is_not_changed(self):
        great = list(GREAT)
        before = deepcopy(great)
        for _ in range(2):
            self.assertEqual(cell_posed(great, (0, 4), "1"), (4, 2))
        self.assertEqual(great, before)
        great.append("aaaaa")
        self.assertEqual(cell_posed(great, (0, 4), "1"), (4, 3))


class Refused(unittest.TestCase):

    def test_what_is_no_great_table(self):
        for thing in no_tables():
            assert_refused(self, "NoTable", places_posed, thing, ["a"])
            assert_refused(self, "NoTable", cell_posed, thing, (0, 0), "0")

    def test_what_is_no_little_table(self):
        for thing in no_littles():
            assert_refused(self, "NoTable", places_posed, GREAT, thing)

    def test_neither(self):
        for thing in no_littles():
            for other in (None, ["a b"], ["ab", "c"], ["?"], thing):
                assert_refused(self, "NoTable", places_posed, other, thing)
        assert_great_one_first(self, places_posed)

    def test_a_little_table_without_a_place_is_refused_all_the_same(self):
        for thing in (["ab", "c"], ["b "], ["b" * 50 + " "], [""]):
            assert_refused(self, "NoTable", places_posed, ["a"], thing)

    def test_what_is_no_pose(self):
        for thing in no_poses():
            assert_refused(self, "NoPose", cell_posed, GREAT, (1, 1), thing)

    def test_what_is_no_cell(self):
        for great in (GREAT, ["a"], ["abc"], ["a", "b", "c"], ["a" * 40] * 40):
            for thing in no_cells(len(great), len(great[0])):
                for pose in ("0", "1", "m2"):
                    assert_refused(self, "NoCell", cell_posed, great, thing, pose)

    def test_a_cell_of_the_table_behind_the_pose_is_none_of_the_one_ahead(self):
        for pose in POSES:
            assert_refused(self, "NoCell", cell_posed, ["abc"], (1, 0), pose)
            assert_refused(self, "NoCell", cell_posed, ["a", "b", "c"], (0, 1), pose)

    def test_no_table_goes_ahead_of_all_else(self):
        for thing in (None, ["?"], ["ab", "c"], [], ("ab",)):
            for cell in no_cells(1, 1):
                assert_refused(self, "NoTable", cell_posed, thing, cell, "0")
                assert_refused(self, "NoTable", cell_posed, thing, cell, "4")
            for pose in no_poses():
                assert_refused(self, "NoTable", cell_posed, thing, (0, 0), pose)

    def test_no_pose_goes_ahead_of_no_cell(self):
        for pose in no_poses():
            for cell in (None, (3, 0), (-1, 0), [0, 0], (True, 0), "0.0", pose):
                assert_refused(self, "NoPose", cell_posed, GREAT, cell, pose)
        for cell in no_cells(3, 5):
            assert_refused(self, "NoPose", cell_posed, GREAT, cell, "m4")

    def test_a_refusal_changes_nothing(self):
        great = list(GREAT)
        assert_refused(self, "NoCell", cell_posed, great, (3, 0), "1")
        assert_refused(self, "NoPose", cell_posed, great, (0, 0), "5")
        assert_refused(self, "NoTable", places_posed, great, [])
        self.assertEqual(great, GREAT)
        self.assertEqual(cell_posed(great, (0, 4), "1"), (4, 2))


if __name__ == "__main__":
    unittest.main()
