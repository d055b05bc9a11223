"""Points 1 to 4 and 18: unlike squares, and the greatest that comes twice."""

import unittest

from tablefind.places import all_places
from tablefind.poses import posed
from tablefind.rounds import moved_round
from tablefind.tables import signs_counted
from tablefind.twice import greatest_twice, how_many_squares
from tests.by_cells import squares_by_cells, twice_by_cells
from tests.samples import (
    FAR, POSES, SIGNS, Plain, assert_cell, assert_refused, assert_told_anew, no_littles, no_tables, no_wholes, part_of,
    refusal_text, small_tables, wide_table,
)

GREAT = [
    "abcab",
    "cabca",
    "bcabc",
]

UNLIKE = ["abcd", "efgh", "ijkl"]

# A table of forty by forty in which single signs come twice, and no greater square.
FAR_APART = ["".join([SIGNS[(i * i * 31 + j * j * 17 + i * j * 5) % 91] for j in range(40)]) for i in range(40)]


def with_part(table, part, i, j):
    """The table with another one laid on it from a cell on."""
    rows = list(table)
    for r, row in enumerate(part):
        old = rows[i + r]
        rows[i + r] = old[:j] + row + old[j + len(row):]
    return rows


def tables_of_many_sizes():
    """Tables of one row, one column and more, of one sign, of few and of many."""
    sizes = ((1, 1), (1, 2), (2, 1), (1, 40), (40, 1), (2, 2), (2, 40), (40, 2), (3, 5), (5, 3), (9, 9), (13, 12))
    told = [wide_table(rows, columns, signs) for rows, columns in sizes for signs in ("a", "ab", "abc", "/-.", SIGNS)]
    return told + [["ab" * 6, "ba" * 6] * 6, ["aab" * 4] * 7, [SIGNS[:40]], list(SIGNS[50:90]), UNLIKE]


def tables_of_forty():
    """Tables of forty by forty: of one sign, of few in an order, and of many."""
    return [["a" * 40] * 40, ["ab" * 20, "ba" * 20] * 20, ["abcab" * 8] * 40, wide_table(40, 40, "ab"),
            wide_table(40, 40, SIGNS), FAR_APART]


class HowManySquares(unittest.TestCase):

    def assert_squares(self, great, s, number):
        told = how_many_squares(great, s)
        self.assertEqual(told, number, (great, s))
        self.assertIs(type(told), int)

    def test_plain_examples(self):
        self.assert_squares(GREAT, 1, 3)
        self.assert_squares(GREAT, 2, 3)
        self.assert_squares(GREAT, 3, 3)
        self.assert_squares(UNLIKE, 1, 12)
        self.assert_squares(UNLIKE, 2, 6)
        self.assert_squares(UNLIKE, 3, 2)
        self.assert_squares(["a"], 1, 1)
        self.assert_squares(["ab"], 1, 2)
        self.assert_squares(["aba"], 1, 2)
        self.assert_squares(["a", "b", "a", "c"], 1, 3)
        self.assert_squares(["aa", "aa"], 2, 1)
        self.assert_squares(["aab", "aab"], 2, 2)

    def test_squares_of_the_same_signs_in_another_order_are_unlike(self):
        self.assert_squares(["abba", "abba"], 2, 3)
        self.assert_squares(["aabb", "bbaa"], 2, 3)
        self.assert_squares(["abab", "cdcd"], 2, 2)
        self.assert_squares(["ab", "ba", "ab"], 2, 2)

    def test_a_square_is_told_from_its_turned_and_mirrored_ones(self):
        self.assert_squares(["abcadb", "cddbca"], 2, 5)

    def test_s_from_one_to_the_lesser_of_both(self):
        for rows, columns in ((1, 1), (1, 7), (7, 1), (2, 3), (3, 2), (4, 4), (40, 5), (6, 40), (40, 40)):
            great = wide_table(rows, columns, "abc")
            least = min(rows, columns)
            self.assert_squares(great, 1, len(signs_counted(great)))
            self.assert_squares(great, least, len(squares_by_cells(great, least)))
            for s in (0, least + 1, -1, -least, max(rows, columns) + 1, 41, FAR, -FAR):
                assert_refused(self, "NoNumber", how_many_squares, great, s)

    def test_the_greater_of_both_is_no_number(self):
        assert_refused(self, "NoNumber", how_many_squares, ["abc"], 3)
        assert_refused(self, "NoNumber", how_many_squares, ["abc"], 2)
        assert_refused(self, "NoNumber", how_many_squares, ["a", "b", "c"], 2)
        assert_refused(self, "NoNumber", how_many_squares, GREAT, 4)
        assert_refused(self, "NoNumber", how_many_squares, GREAT, 5)

    def test_small_tables(self):
        for great in small_tables(3, 3, "ab") + small_tables(2, 2, "abcd"):
            for s in range(1, min(len(great), len(great[0])) + 1):
                self.assert_squares(great, s, len(squares_by_cells(great, s)))

    def test_many_sizes(self):
        for great in tables_of_many_sizes():
            for s in range(1, min(len(great), len(great[0])) + 1):
                self.assert_squares(great, s, len(squares_by_cells(great, s)))

    def test_forty_by_forty(self):
        for great in tables_of_forty():
            for s in (1, 2, 7, 20, 39, 40):
                self.assert_squares(great, s, len(squares_by_cells(great, s)))
        for s in range(1, 41):
            self.assert_squares(["a" * 40] * 40, s, 1)
            self.assert_squares(["ab" * 20, "ba" * 20] * 20, s, 1 if s == 40 else 2)

    def test_as_many_in_each_pose(self):
        for great in tables_of_many_sizes():
            for s in range(1, min(len(great), len(great[0])) + 1):
                number = how_many_squares(great, s)
                for pose in POSES:
                    self.assert_squares(posed(great, pose), s, number)

    def test_lists_that_were_changed_are_asked_anew(self):
        great = ["ab", "ab"]
        self.assert_squares(great, 1, 2)
        great[1] = "cd"
        self.assert_squares(great, 1, 4)
        assert_told_anew(self, how_many_squares, great, 1)

    def test_what_is_no_table_goes_ahead(self):
        text = refusal_text(how_many_squares, None, 1)
        for thing in no_tables():
            assert_refused(self, "NoTable", how_many_squares, thing, 1)
        for wrong in (None, 0, 5, "1", [], True, Plain()):
            assert_refused(self, "NoTable", how_many_squares, ["a?"], wrong)
            assert_refused(self, "NoTable", how_many_squares, "ab", wrong)
            self.assertEqual(refusal_text(how_many_squares, None, wrong), text)

    def test_what_is_no_number(self):
        for great in (["a"], GREAT, ["a" * 40] * 40):
            for thing in no_wholes():
                assert_refused(self, "NoNumber", how_many_squares, great, thing)

    def test_a_truth_is_no_number(self):
        for truth in (True, False):
            assert_refused(self, "NoNumber", how_many_squares, ["ab", "cd"], truth)


class GreatestTwice(unittest.TestCase):

    def assert_twice(self, great, told):
        asked = greatest_twice(great)
        self.assertEqual(asked, told, great)
        if told is not None:
            self.assertIs(type(asked), tuple)
            self.assertIs(type(asked[0]), int)
            assert_cell(self, asked[1], told[1])
            assert_cell(self, asked[2], told[2])

    def test_plain_examples(self):
        self.assert_twice(GREAT, (2, (0, 0), (0, 3)))
        self.assert_twice(["aa"], (1, (0, 0), (0, 1)))
        self.assert_twice(["a", "a"], (1, (0, 0), (1, 0)))
        self.assert_twice(["abcb"], (1, (0, 1), (0, 3)))
        self.assert_twice(["ab", "ca"], (1, (0, 0), (1, 1)))
        self.assert_twice(["ab", "bc"], (1, (0, 1), (1, 0)))
        self.assert_twice(["abxab", "cdycd"], (2, (0, 0), (0, 3)))
        self.assert_twice(["xab", "xcd", "aby", "cdz"], (2, (0, 1), (2, 0)))

    def test_none_where_no_sign_comes_twice(self):
        for great in (["a"], ["ab"], ["a", "b"], ["aA"], UNLIKE, [SIGNS[:40]], list(SIGNS[:40]),
                      [SIGNS[9 * k:9 * k + 9] for k in range(9)]):
            self.assertIsNone(greatest_twice(great))

    def test_one_sign_that_comes_twice(self):
        rows = [SIGNS[9 * k:9 * k + 9] for k in range(10)]
        for i, j in ((0, 1), (3, 3), (9, 8), (8, 0)):
            self.assert_twice(with_part(rows, [SIGNS[0]], i, j), (1, (0, 0), (i, j)))
            self.assert_twice(with_part(rows, [SIGNS[90]], i, j), None)

    def test_squares_that_overlap(self):
        self.assert_twice(["aaa", "aaa", "aaa"], (2, (0, 0), (0, 1)))
        self.assert_twice(["aaa", "aaa"], (2, (0, 0), (0, 1)))
        self.assert_twice(["aa", "aa", "aa"], (2, (0, 0), (1, 0)))
        self.assert_twice(["ababa", "babab", "ababa"], (3, (0, 0), (0, 2)))
        self.assert_twice(["abab", "baba", "abab", "baba"], (3, (0, 0), (1, 1)))
        self.assert_twice(["a" * 40] * 40, (39, (0, 0), (0, 1)))
        self.assert_twice(["ab" * 20, "ba" * 20] * 20, (39, (0, 0), (1, 1)))
        self.assert_twice(["ab" * 20] * 40, (39, (0, 0), (1, 0)))

    def test_the_square_of_the_whole_table_comes_once(self):
        self.assert_twice(["aa", "aa"], (1, (0, 0), (0, 1)))
        self.assert_twice(["aaaa", "aaaa", "aaaa"], (3, (0, 0), (0, 1)))

    def test_the_least_pair_of_several(self):
        self.assert_twice(["abba"], (1, (0, 0), (0, 3)))
        self.assert_twice(["baab"], (1, (0, 0), (0, 3)))
        self.assert_twice(["cabba"], (1, (0, 1), (0, 4)))
        self.assert_twice(["aaaa"], (1, (0, 0), (0, 1)))
        self.assert_twice(["abaa"], (1, (0, 0), (0, 2)))
        self.assert_twice(["xy", "ba", "ab"], (1, (1, 0), (2, 1)))
        # A square that begins earlier goes ahead of one whose cells lie nearer.
        self.assert_twice(["abxyxy", "cdzwzw", "qrstab", "uvmncd"], (2, (0, 0), (2, 4)))
        self.assert_twice(["xyxyab", "zwzwcd", "qrstab", "uvmncd"], (2, (0, 0), (0, 2)))

    def test_a_square_that_comes_three_times(self):
        self.assert_twice(["abxab", "cdycd", "qabrs", "tcduv"], (2, (0, 0), (0, 3)))
        self.assert_twice(["abxyz", "cdwvu", "qabrs", "tcdab", "mnocd"], (2, (0, 0), (2, 1)))

    def test_a_greater_square_goes_ahead_of_a_lesser_pair(self):
        self.assert_twice(["aab", "cab", "dxy", "eab", "fab"], (2, (0, 1), (3, 1)))

    def test_squares_that_are_alike_turned_or_mirrored_alone_do_not_count(self):
        self.assert_twice(["abxca", "cdydb"], (1, (0, 0), (0, 4)))
        self.assert_twice(["abxba", "cdydc"], (1, (0, 0), (0, 4)))

    def test_a_table_is_not_round(self):
        self.assert_twice(["bcda", "fghe"], None)
        self.assert_twice(["baxab", "dcycd"], (1, (0, 0), (0, 4)))
        self.assert_twice(moved_round(["aabb", "aabb"], 0, 1), (1, (0, 0), (0, 3)))

    def test_small_tables(self):
        for great in small_tables(3, 4, "ab") + small_tables(2, 2, "abcd") + small_tables(4, 2, "abc"):
            self.assert_twice(great, twice_by_cells(great))

    def test_many_sizes(self):
        for great in tables_of_many_sizes():
            self.assert_twice(great, twice_by_cells(great))

    def test_great_squares_far_apart(self):
        squares = ((7, (0, 0), (33, 33)), (7, (3, 5), (20, 0)), (12, (1, 27), (28, 1)), (20, (20, 0), (0, 20)))
        for s, one, other in squares:
            part = part_of(FAR_APART, *one, s, s)
            great = with_part(FAR_APART, part, *other)
            self.assert_twice(great, (s, *sorted([one, other])))

    def test_forty_by_forty(self):
        for great in tables_of_forty():
            s, one, other = greatest_twice(great)
            cells = squares_by_cells(great, s)
            pairs = [tuple(found[:2]) for found in cells.values() if len(found) > 1]
            self.assertEqual((one, other), min(pairs))
            self.assertEqual(how_many_squares(great, s + 1), (40 - s) ** 2)

    def test_told_squares_are_alike_and_no_greater_one_comes_twice(self):
        for great in tables_of_many_sizes() + tables_of_forty():
            told = greatest_twice(great)
            sizes = len(great), len(great[0])
            least = min(sizes)
            s = 0 if told is None else told[0]
            if told is not None:
                self.assertLess(told[1], told[2])
                self.assertEqual(part_of(great, *told[1], s, s), part_of(great, *told[2], s, s))
                self.assertEqual(len(part_of(great, *told[2], s, s)[-1]), s)
            for greater in range(s + 1, least + 1):
                self.assertEqual(how_many_squares(great, greater), (sizes[0] - greater + 1) * (sizes[1] - greater + 1))

    def test_it_stands_at_both_cells_as_a_little_table(self):
        for great in tables_of_many_sizes():
            told = greatest_twice(great)
            if told is not None:
                s, one, other = told
                self.assertEqual(all_places(great, part_of(great, *one, s, s))[:2], [one, other])

    def test_as_great_in_each_pose(self):
        for great in tables_of_many_sizes():
            told = greatest_twice(great)
            for pose in POSES:
                turned = greatest_twice(posed(great, pose))
                self.assertEqual(turned is None, told is None)
                if told is not None:
                    self.assertEqual(turned[0], told[0])

    def test_lists_that_were_changed_are_asked_anew(self):
        great = ["ab", "ca"]
        self.assert_twice(great, (1, (0, 0), (1, 1)))
        great[1] = "cd"
        self.assert_twice(great, None)
        for table in (GREAT, UNLIKE, ["aa"]):
            assert_told_anew(self, greatest_twice, list(table))

    def test_what_is_no_table(self):
        for thing in no_tables() + no_littles():
            assert_refused(self, "NoTable", greatest_twice, thing)


if __name__ == "__main__":
    unittest.main()
