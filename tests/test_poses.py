"""Points 1 to 4 and 6 to 8: the poses."""

import unittest
from copy import deepcopy

from tablefind.poses import pose_back, pose_behind, posed, same_poses, unlike_poses
from tests.by_cells import posed_by_cells
from tests.samples import POSES, SIGNS, assert_refused, freed, no_littles, no_poses, small_tables, wide_table

LITTLE = ["abc", "d?f"]

IN_POSES = {
    "0": ["abc", "d?f"],
    "1": ["da", "?b", "fc"],
    "2": ["f?d", "cba"],
    "3": ["cf", "b?", "ad"],
    "m0": ["cba", "f?d"],
    "m1": ["fc", "?b", "da"],
    "m2": ["d?f", "abc"],
    "m3": ["ad", "b?", "cf"],
}

# The row tells the first pose, the column the second, both in the order of (6).
BEHIND = [
    "0 1 2 3 m0 m1 m2 m3".split(),
    "1 2 3 0 m3 m0 m1 m2".split(),
    "2 3 0 1 m2 m3 m0 m1".split(),
    "3 0 1 2 m1 m2 m3 m0".split(),
    "m0 m1 m2 m3 0 1 2 3".split(),
    "m1 m2 m3 m0 3 0 1 2".split(),
    "m2 m3 m0 m1 2 3 0 1".split(),
    "m3 m0 m1 m2 1 2 3 0".split(),
]

BACK = {"0": "0", "1": "3", "2": "2", "3": "1", "m0": "m0", "m1": "m1", "m2": "m2", "m3": "m3"}

# A little table, the poses in which it is as in "0", and the unlike poses.
LIKENESS = [
    (["a"], POSES, ["0"]),
    (["?"], POSES, ["0"]),
    (["aa", "aa"], POSES, ["0"]),
    (["aba", "b?b", "aba"], POSES, ["0"]),
    (["abc", "def", "ghi"], ["0"], POSES),
    (["abc", "d?f"], ["0"], POSES),
    (["ab"], ["0", "m2"], ["0", "1", "2", "3"]),
    (["a", "b"], ["0", "m0"], ["0", "1", "2", "3"]),
    (["a?"], ["0", "m2"], ["0", "1", "2", "3"]),
    (["aba"], ["0", "2", "m0", "m2"], ["0", "1"]),
    (["aa"], ["0", "2", "m0", "m2"], ["0", "1"]),
    (["a", "?", "a"], ["0", "2", "m0", "m2"], ["0", "1"]),
    (["ab", "bc"], ["0", "m3"], ["0", "1", "2", "3"]),
    (["ab", "ca"], ["0", "m1"], ["0", "1", "2", "3"]),
    (["ab", "ba"], ["0", "2", "m1", "m3"], ["0", "1"]),
    (["a?", "?a"], ["0", "2", "m1", "m3"], ["0", "1"]),
    (["aab", "baa"], ["0", "2"], ["0", "1", "m0", "m1"]),
    (["abc", "cba"], ["0", "2"], ["0", "1", "m0", "m1"]),
    (["xaby", "bxya", "ayxb", "ybax"], ["0", "2"], ["0", "1", "m0", "m1"]),
    (["xabx", "b..a", "a..b", "xbax"], ["0", "1", "2", "3"], ["0", "m0"]),
    (["xab", "b.a", "bax"], ["0"], POSES),
]


def tables_of_many_sizes():
    """Tables of few signs and of any, with some free cells, many, all and none."""
    told = []
    for rows, columns in ((1, 1), (1, 2), (2, 1), (1, 40), (40, 1), (3, 5), (12, 12), (12, 7), (39, 40), (40, 40)):
        for signs in ("a", "ab", SIGNS, "?", "a?", "??????b"):
            told.append(wide_table(rows, columns, signs))
        told.append(freed(wide_table(rows, columns, SIGNS), 5))
    return told


class InAPose(unittest.TestCase):

    def test_one_table_in_each_pose(self):
        for pose in POSES:
            self.assertEqual(posed(LITTLE, pose), IN_POSES[pose], pose)

    def test_one_sign_one_row_one_column(self):
        for pose in POSES:
            self.assertEqual(posed(["a"], pose), ["a"])
        row = {"0": ["abc"], "1": ["a", "b", "c"], "2": ["cba"], "3": ["c", "b", "a"],
               "m0": ["cba"], "m1": ["c", "b", "a"], "m2": ["abc"], "m3": ["a", "b", "c"]}
        column = {"0": ["a", "b", "c"], "1": ["cba"], "2": ["c", "b", "a"], "3": ["abc"],
                  "m0": ["a", "b", "c"], "m1": ["cba"], "m2": ["c", "b", "a"], "m3": ["abc"]}
        for pose in POSES:
            self.assertEqual(posed(["abc"], pose), row[pose], pose)
            self.assertEqual(posed(["a", "b", "c"], pose), column[pose], pose)

    def test_the_first_column_read_upwards_becomes_the_first_row(self):
        for table in tables_of_many_sizes():
            column = "".join([row[0] for row in table])
            self.assertEqual(posed(table, "1")[0], column[::-1])

    def test_small_tables(self):
        for table in small_tables(2, 3, "ab?"):
            for pose in POSES:
                self.assertEqual(posed(table, pose), posed_by_cells(table, pose), (table, pose))

    def test_many_sizes(self):
        for table in tables_of_many_sizes():
            for pose in POSES:
                self.assertEqual(posed(table, pose), posed_by_cells(table, pose))

    def test_what_is_told_is_a_list_of_texts(self):
        for table in (LITTLE, ["a"], ["ab"], ["a", "b"]):
            for pose in POSES:
                told = posed(table, pose)
                self.assertIs(type(told), list)
                self.assertEqual([type(row) for row in told], [str] * len(told))

    def test_a_told_list_is_a_new_one(self):
        for table in (["a"], ["ab"], ["a", "b"], ["aa", "aa"], LITTLE):
            for pose in POSES:
                mine = list(table)
                first = posed(mine, pose)
                second = posed(mine, pose)
                self.assertIsNot(first, mine)
                self.assertIsNot(first, second)
                first.append("z")
                first[0] = "z"
                self.assertEqual(mine, table)
                self.assertEqual(second, posed_by_cells(table, pose))
                self.assertEqual(posed(mine, pose), posed_by_cells(table, pose))

    def test_a_list_that_was_changed_is_posed_anew(self):
        table = ["ab", "cd"]
        self.assertEqual(posed(table, "1"), ["ca", "db"])
        table.append("ef")
        self.assertEqual(posed(table, "1"), ["eca", "fdb"])
        table[0] = "xy"
        self.assertEqual(posed(table, "1"), ["ecx", "fdy"])

    def test_what_is_handed_in_is_not_changed(self):
        for table in tables_of_many_sizes():
            before = deepcopy(table)
            for pose in POSES:
                posed(table, pose)
            same_poses(table)
            unlike_poses(table)
            self.assertEqual(table, before)

    def test_what_is_told_may_be_handed_in(self):
        for pose in POSES:
            for other in POSES:
                self.assertEqual(posed(posed(LITTLE, pose), other),
                                 posed_by_cells(posed_by_cells(LITTLE, pose), other))

    def test_refused(self):
        for thing in no_littles():
            assert_refused(self, "NoTable", posed, thing, "m1")
        for thing in no_poses():
            assert_refused(self, "NoPose", posed, LITTLE, thing)

    def test_no_table_goes_ahead_of_no_pose(self):
        for thing in no_littles():
            for pose in (None, "4", ["0"], 0):
                assert_refused(self, "NoTable", posed, thing, pose)
        for thing in no_poses():
            assert_refused(self, "NoTable", posed, ["ab", "c"], thing)


class PosesBehindPoses(unittest.TestCase):

    def test_all_pairs(self):
        for i, one in enumerate(POSES):
            for j, other in enumerate(POSES):
                told = pose_behind(one, other)
                self.assertEqual(told, BEHIND[i][j], (one, other))
                self.assertIs(type(told), str)

    def test_it_comes_to_the_first_and_then_the_second(self):
        for table in (LITTLE, ["abcd"], ["a", "b"], ["ab", "cd"], wide_table(7, 12, SIGNS)):
            for one in POSES:
                for other in POSES:
                    self.assertEqual(posed(table, pose_behind(one, other)), posed(posed(table, one), other))

    def test_all_poses_undone(self):
        for pose in POSES:
            told = pose_back(pose)
            self.assertEqual(told, BACK[pose], pose)
            self.assertIs(type(told), str)

    def test_undone_a_table_is_as_it_was(self):
        for table in (LITTLE, ["abcd"], ["a", "b"], ["ab", "cd"], wide_table(12, 7, SIGNS)):
            for pose in POSES:
                self.assertEqual(posed(posed(table, pose), pose_back(pose)), table)
                self.assertEqual(pose_behind(pose, pose_back(pose)), "0")
                self.assertEqual(pose_behind(pose_back(pose), pose), "0")

    def test_the_same_again(self):
        for _ in range(2):
            self.assertEqual(pose_behind("1", "m2"), "m1")
            self.assertEqual(pose_behind("m2", "1"), "m3")
            self.assertEqual(pose_back("1"), "3")

    def test_refused(self):
        for thing in no_poses():
            assert_refused(self, "NoPose", pose_back, thing)
            for pose in POSES:
                assert_refused(self, "NoPose", pose_behind, thing, pose)
                assert_refused(self, "NoPose", pose_behind, pose, thing)
            assert_refused(self, "NoPose", pose_behind, thing, thing)


class PosesThatAreAlike(unittest.TestCase):

    def assert_likeness(self, table, same, unlike):
        self.assertEqual(same_poses(table), same, table)
        self.assertEqual(unlike_poses(table), unlike, table)

    def likeness_by_cells(self, table):
        told = {pose: posed_by_cells(table, pose) for pose in POSES}
        same = [pose for pose in POSES if told[pose] == table]
        unlike = [pose for at, pose in enumerate(POSES)
                  if told[pose] not in [told[earlier] for earlier in POSES[:at]]]
        return same, unlike

    def test_plain_examples(self):
        for table, same, unlike in LIKENESS:
            self.assert_likeness(table, same, unlike)

    def test_small_tables(self):
        for table in small_tables(2, 3, "ab?") + small_tables(3, 3, "a?"):
            self.assert_likeness(table, *self.likeness_by_cells(table))

    def test_many_sizes(self):
        for table in tables_of_many_sizes():
            self.assert_likeness(table, *self.likeness_by_cells(table))

    def test_great_tables_that_some_poses_leave_as_they_are(self):
        table = wide_table(20, 20, SIGNS)
        across = [row + row[::-1] for row in table]
        self.assert_likeness(across, ["0", "m0"], ["0", "1", "2", "3"])
        self.assert_likeness(across + across[::-1], ["0", "2", "m0", "m2"], ["0", "1"])
        down = table + table[::-1]
        self.assert_likeness(down, ["0", "m2"], ["0", "1", "2", "3"])

    def test_as_many_poses_as_there_are(self):
        for table in small_tables(2, 2, "ab?"):
            self.assertEqual(len(same_poses(table)) * len(unlike_poses(table)), 8)

    def test_a_told_list_is_a_new_one(self):
        for asked in (same_poses, unlike_poses):
            for table, _, _ in LIKENESS:
                first = asked(table)
                second = asked(table)
                before = list(first)
                self.assertIs(type(first), list)
                self.assertIsNot(first, second)
                first.clear()
                self.assertEqual(second, before)
                second.append("m3")
                self.assertEqual(asked(table), before)
                self.assertEqual([posed(LITTLE, pose) for pose in POSES], [IN_POSES[pose] for pose in POSES])

    def test_refused(self):
        for thing in no_littles():
            assert_refused(self, "NoTable", same_poses, thing)
            assert_refused(self, "NoTable", unlike_poses, thing)


if __name__ == "__main__":
    unittest.main()
