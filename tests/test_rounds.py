"""Points 1 to 4, 12 and 13: round tables, and tables moved round."""

import unittest

from tablefind.places import all_places
from tablefind.poses import posed
from tablefind.rounds import how_many_moved, least_moved, moved_round, round_places
from tests.by_cells import all_moved, moved_by_steps, round_places_by_tiles, signs_by_cells
from tests.samples import (
    FAR, POSES, SIGNS, assert_cells, assert_great_one_first, assert_refused, assert_told_anew, freed, no_littles,
    no_tables, no_wholes, pairs_of_many_sizes, part_of, small_tables, wide_table,
)

GREAT = [
    "abcd",
    "efgh",
    "ijkl",
]

MOVED = [
    (0, 0, ["abcd", "efgh", "ijkl"]),
    (0, 1, ["bcda", "fghe", "jkli"]),
    (0, 3, ["dabc", "hefg", "lijk"]),
    (0, 4, ["abcd", "efgh", "ijkl"]),
    (0, -1, ["dabc", "hefg", "lijk"]),
    (1, 0, ["efgh", "ijkl", "abcd"]),
    (2, 0, ["ijkl", "abcd", "efgh"]),
    (3, 0, ["abcd", "efgh", "ijkl"]),
    (-1, 0, ["ijkl", "abcd", "efgh"]),
    (1, 1, ["fghe", "jkli", "bcda"]),
    (-1, -1, ["lijk", "dabc", "hefg"]),
    (2, 3, ["lijk", "dabc", "hefg"]),
    (5, 7, ["lijk", "dabc", "hefg"]),
    (-4, 9, ["jkli", "bcda", "fghe"]),
    (FAR, 10 ** 29, ["abcd", "efgh", "ijkl"]),
    (-FAR + 1, 10 ** 29 + 2, ["ghef", "klij", "cdab"]),
]

# A table, to how many it comes, and the least with the first (a, b) that makes it.
LEAST = [
    (["a"], 1, (0, 0, ["a"])),
    (["ab"], 2, (0, 0, ["ab"])),
    (["ba"], 2, (0, 1, ["ab"])),
    (["b", "a"], 2, (1, 0, ["a", "b"])),
    (["aa", "aa"], 1, (0, 0, ["aa", "aa"])),
    (["ab", "ba"], 2, (0, 0, ["ab", "ba"])),
    (["ba", "ab"], 2, (0, 1, ["ab", "ba"])),
    (["ab", "ab"], 2, (0, 0, ["ab", "ab"])),
    (["ba", "ba"], 2, (0, 1, ["ab", "ab"])),
    (["bb", "aa"], 2, (1, 0, ["aa", "bb"])),
    (["bb", "ab"], 4, (1, 0, ["ab", "bb"])),
    (["bb", "ba"], 4, (1, 1, ["ab", "bb"])),
    (["baba"], 2, (0, 1, ["abab"])),
    (["bcabca"], 3, (0, 2, ["abcabc"])),
    (["cba"], 3, (0, 2, ["acb"])),
    (["ba", "aa"], 4, (1, 1, ["aa", "ab"])),
    (["aab", "aba"], 6, (0, 0, ["aab", "aba"])),
    (["aZ"], 2, (0, 1, ["Za"])),
    (["~!", "a0"], 4, (0, 1, ["!~", "0a"])),
]


class RoundPlaces(unittest.TestCase):

    def assert_places(self, great, little, places):
        assert_cells(self, round_places(great, little), places, (great, little))

    def test_plain_examples(self):
        self.assert_places(GREAT, ["a"], [(0, 0)])
        self.assert_places(GREAT, ["da"], [(0, 3)])
        self.assert_places(GREAT, ["i", "a"], [(2, 0)])
        self.assert_places(GREAT, ["li", "da"], [(2, 3)])
        self.assert_places(GREAT, ["l?", "?a"], [(2, 3)])
        self.assert_places(GREAT, ["?a"], [(0, 3)])
        self.assert_places(GREAT, ["?", "a"], [(2, 0)])
        self.assert_places(GREAT, ["fgh"], [(1, 1)])
        self.assert_places(GREAT, ["fghe"], [(1, 1)])
        self.assert_places(GREAT, ["ad"], [])
        self.assert_places(GREAT, ["x"], [])
        self.assert_places(GREAT, GREAT, [(0, 0)])
        self.assert_places(GREAT, ["lijk", "dabc", "hefg"], [(2, 3)])
        self.assert_places(["aab"], ["aa"], [(0, 0)])
        self.assert_places(["aba"], ["aa"], [(0, 2)])
        self.assert_places(["ab", "ba"], ["ab"], [(0, 0), (1, 1)])
        self.assert_places(["ab", "ba"], ["ab", "ba"], [(0, 0), (1, 1)])

    def test_more_rows_or_columns_than_the_great_one(self):
        self.assert_places(["a"], ["a"], [(0, 0)])
        self.assert_places(["a"], ["a" * 12] * 12, [(0, 0)])
        self.assert_places(["a"], ["a" * 12] * 11 + ["a" * 11 + "b"], [])
        self.assert_places(["ab"], ["aba"], [(0, 0)])
        self.assert_places(["ab"], ["babab"], [(0, 1)])
        self.assert_places(["ab"], ["aa"], [])
        self.assert_places(["ab"], ["ab?b"], [(0, 0)])
        self.assert_places(["ab"], ["a??a"], [])
        self.assert_places(["ab"], ["b", "b", "b"], [(0, 1)])
        self.assert_places(["abc"], ["bcabcabcabca"], [(0, 1)])
        self.assert_places(["a", "b", "c"], list("cabcabcabcab"), [(2, 0)])
        self.assert_places(["ab", "cd"], ["dcd", "bab", "dcd"], [(1, 1)])
        self.assert_places(["ab", "cd"], ["??d", "???", "d??"], [(1, 1)])
        self.assert_places(["ab", "cd"], ["??d", "???", "c??"], [])
        self.assert_places(GREAT, [row * 3 for row in GREAT] * 4, [(0, 0)])

    def test_free_cells_alone(self):
        for great in (["a"], ["ab"], ["a", "b"], GREAT, ["a" * 40] * 40):
            for little in (["?"], ["??"], ["?", "?"], ["?" * 12] * 12, ["?" * 12], ["?"] * 12):
                self.assert_places(great, little, sorted(signs_by_cells(great)))

    def test_small_tables(self):
        littles = small_tables(2, 2, "ab?") + [["aba"], ["a?a"], ["a", "b", "?"], ["aba?", "??ab"], list("a?bb")]
        for great in small_tables(2, 3, "ab") + [["abab", "babb", "aaba"], ["abb", "bab", "aab", "abb"]]:
            for little in littles:
                self.assert_places(great, little, round_places_by_tiles(great, little))

    def test_many_sizes(self):
        for great, little in pairs_of_many_sizes():
            self.assert_places(great, little, round_places_by_tiles(great, little))

    def test_parts_that_go_over_the_edges(self):
        for signs in ("ab", "abc", SIGNS):
            great = wide_table(40, 40, signs)
            for i, j in ((0, 0), (39, 39), (39, 0), (0, 39), (33, 30), (29, 5), (17, 35)):
                for rows, columns in ((12, 12), (1, 12), (12, 1), (3, 4)):
                    part = part_of(moved_by_steps(great, i, j), 0, 0, rows, columns)
                    for little in (part, freed(part, 2), freed(part, 5)):
                        places = round_places_by_tiles(great, little)
                        self.assertIn((i, j), places)
                        self.assert_places(great, little, places)

    def test_all_signs_alike_in_the_greatest(self):
        great = ["a" * 40] * 40
        self.assert_places(great, ["a" * 12] * 12, [(i, j) for i in range(40) for j in range(40)])
        self.assert_places(great, ["a" * 12] * 11 + ["a" * 11 + "b"], [])
        self.assert_places(great, ["b" + "a" * 11] + ["a" * 12] * 11, [])

    def test_each_sign(self):
        great = [SIGNS[:30], SIGNS[30:60], SIGNS[60:90]]
        for i, row in enumerate(great):
            for j, sign in enumerate(row):
                self.assert_places(great, [sign], [(i, j)])
                self.assert_places(great, ["?", sign], [((i - 1) % 3, j)])
                self.assert_places(great, ["??" + sign], [(i, (j - 2) % 30)])

    def test_the_places_of_the_table_that_is_not_round_are_among_them(self):
        for great, little in pairs_of_many_sizes():
            rows, columns = len(great) - len(little), len(great[0]) - len(little[0])
            within = [(i, j) for i, j in round_places(great, little) if i <= rows and j <= columns]
            self.assertEqual(within, all_places(great, little))

    def test_moved_round_the_places_go_with_it(self):
        for great in (wide_table(5, 7, "ab"), wide_table(1, 9, "ab"), wide_table(9, 1, "ab")):
            for little in (["a"], ["ab", "?a"], ["a??b"], ["b", "?", "a"], ["a" * 10]):
                for a, b in ((0, 1), (1, 0), (4, 6), (-3, 5), (10, -20)):
                    places = [((i - a) % len(great), (j - b) % len(great[0])) for i, j in round_places(great, little)]
                    self.assert_places(moved_round(great, a, b), little, sorted(places))

    def test_turned_it_has_as_many(self):
        great = wide_table(6, 9, "ab")
        for little in (["a"], ["ab"], ["a?b"], ["ab", "?a"], ["a", "?", "b"], ["a" + "?" * 8 + "a"], ["ab"] * 7):
            for pose in POSES:
                self.assertEqual(len(round_places(posed(great, pose), posed(little, pose))),
                                 len(round_places(great, little)))

    def test_sizes_somewhat_beyond(self):
        self.assert_places(["a" * 41] * 42, ["a" * 13] * 13, [(i, j) for i in range(42) for j in range(41)])
        self.assert_places(["ab"], ["ab" * 30] * 60, [(0, 0)])

    def test_told_anew(self):
        for little in (["da"], ["x"], ["?"], ["??", "?a"]):
            assert_told_anew(self, round_places, list(GREAT), little)

    def test_lists_that_were_changed_are_asked_anew(self):
        great, little = ["ab"], ["ba"]
        self.assert_places(great, little, [(0, 1)])
        great.append("ba")
        self.assert_places(great, little, [(0, 1), (1, 0)])
        little.append("ab")
        self.assert_places(great, little, [(0, 1), (1, 0)])
        little.append("ab")
        self.assert_places(great, little, [])


class MovedRound(unittest.TestCase):

    def assert_moved(self, great, a, b, table):
        told = moved_round(great, a, b)
        self.assertEqual(told, table, (great, a, b))
        self.assertIs(type(told), list)
        self.assertEqual([type(row) for row in told], [str] * len(told))

    def test_plain_examples(self):
        for a, b, table in MOVED:
            self.assert_moved(GREAT, a, b, table)

    def test_one_sign_one_row_one_column(self):
        for a in (-3, -1, 0, 1, 2, 10, FAR, -FAR):
            self.assert_moved(["a"], a, 5, ["a"])
            self.assert_moved(["abc"], a, 0, ["abc"])
            self.assert_moved(["abc"], a, 1, ["bca"])
            self.assert_moved(["a", "b", "c"], 0, a, ["a", "b", "c"])
            self.assert_moved(["a", "b", "c"], -1, a, ["c", "a", "b"])

    def test_by_steps(self):
        for great in (["a"], ["ab"], ["a", "b"], ["abc", "def"], wide_table(5, 4, SIGNS), wide_table(4, 7, "ab")):
            for a in range(-9, 10):
                for b in range(-9, 10):
                    self.assert_moved(great, a, b, moved_by_steps(great, a, b))

    def test_great_sizes(self):
        for rows, columns in ((40, 40), (1, 40), (40, 1), (39, 40), (12, 37)):
            great = wide_table(rows, columns, SIGNS)
            for a, b in ((0, 0), (1, 0), (0, 1), (39, 39), (40, 40), (-1, -1), (-39, 12), (81, -81), (20, 20)):
                self.assert_moved(great, a, b, moved_by_steps(great, a, b))

    def test_great_and_negative_numbers(self):
        great = wide_table(7, 11, SIGNS)
        for far in [77 * by for by in (1, 10 ** 9, 2 ** 63, 10 ** 27, -1, -10 ** 9, -2 ** 70, -10 ** 27)]:
            for a, b in ((0, 0), (1, 2), (6, 10), (-3, -4)):
                self.assert_moved(great, a + far, b, moved_by_steps(great, a, b))
                self.assert_moved(great, a, b + far, moved_by_steps(great, a, b))
                self.assert_moved(great, a + far, b - far, moved_by_steps(great, a, b))

    def test_moved_back_it_is_as_it_was(self):
        great = wide_table(9, 8, "abc")
        for a, b in ((0, 0), (1, 1), (5, -3), (-20, 100), (FAR, -FAR)):
            self.assertEqual(moved_round(moved_round(great, a, b), -a, -b), great)
            self.assertEqual(moved_round(moved_round(great, a, 0), 0, b), moved_round(great, a, b))

    def test_told_anew(self):
        for a, b in ((0, 0), (1, 0), (0, 1), (3, 4), (-FAR, FAR)):
            assert_told_anew(self, moved_round, list(GREAT), a, b)
        assert_told_anew(self, moved_round, ["a"], 0, 0)

    def test_a_list_that_was_changed_is_moved_anew(self):
        great = ["ab", "cd"]
        self.assert_moved(great, 1, 1, ["dc", "ba"])
        great.append("ef")
        self.assert_moved(great, 1, 1, ["dc", "fe", "ba"])


class HowManyAndTheLeast(unittest.TestCase):

    def assert_told(self, great, many, least):
        told = how_many_moved(great)
        self.assertEqual(told, many, great)
        self.assertIs(type(told), int)
        told = least_moved(great)
        self.assertEqual(told, least, great)
        self.assertIs(type(told), tuple)
        self.assertEqual([type(part) for part in told], [int, int, list])
        self.assertEqual([type(row) for row in told[2]], [str] * len(great))

    def assert_as_by_steps(self, great):
        moved = all_moved(great)
        table, a, b = min(moved)
        self.assert_told(great, len({tuple(one) for one, _, _ in moved}), (a, b, table))

    def test_plain_examples(self):
        for great, many, least in LEAST:
            self.assert_told(great, many, least)

    def test_small_tables(self):
        for great in small_tables(3, 3, "ab") + small_tables(2, 2, "ab!~Z"):
            self.assert_as_by_steps(great)

    def test_all_signs_unlike(self):
        self.assert_told(GREAT, 12, (0, 0, GREAT))
        self.assert_told(moved_by_steps(GREAT, 1, 1), 12, (2, 3, GREAT))
        great = ["".join(SIGNS[30 * i:30 * i + 30]) for i in range(3)]
        self.assert_told(great, 90, (0, 0, great))
        for a, b in ((0, 1), (1, 0), (2, 29), (1, 17)):
            self.assert_told(moved_by_steps(great, a, b), 90, (-a % 3, -b % 30, great))

    def test_one_row_and_one_column(self):
        for many in (1, 2, 12, 39, 40):
            for text in ("a" * many, "b" * (many - 1) + "a", ("ba" * many)[:many], ("abaab" * many)[:many],
                         ("aab" * many)[:many], wide_table(1, many, SIGNS)[0]):
                self.assert_as_by_steps([text])
                self.assert_as_by_steps(list(text))

    def test_tables_that_some_moves_leave_as_they_are(self):
        part = wide_table(3, 4, "ab")
        self.assert_as_by_steps([row * 2 for row in part])
        self.assert_as_by_steps(part * 2)
        self.assert_as_by_steps([row * 3 for row in part] * 2)
        shifted = [("abcabc" * 2)[i:i + 6] for i in range(6)]
        self.assert_told(shifted, 3, (0, 0, shifted))
        self.assert_told(shifted[::-1], 3, (0, 1, moved_by_steps(shifted[::-1], 0, 1)))
        self.assert_told(["abcdcdab", "efghghef"], 16, (0, 6, ["ababcdcd", "efefghgh"]))

    def test_great_sizes(self):
        self.assert_told(["a" * 40] * 40, 1, (0, 0, ["a" * 40] * 40))
        self.assert_told(["ba" * 20, "ab" * 20] * 20, 2, (0, 1, ["ab" * 20, "ba" * 20] * 20))
        self.assert_told(["ba" * 20] * 40, 2, (0, 1, ["ab" * 20] * 40))
        self.assert_told(["b" * 40, "a" * 40] * 20, 2, (1, 0, ["a" * 40, "b" * 40] * 20))
        dotted = ["b" * 40] * 39 + ["b" * 39 + "a"]
        self.assert_told(dotted, 1600, (39, 39, ["a" + "b" * 39] + ["b" * 40] * 39))
        for rows, columns in ((40, 40), (39, 40), (12, 12)):
            self.assert_as_by_steps(wide_table(rows, columns, "ab"))

    def test_the_least_of_all_that_are_moved_is_the_same(self):
        for great in (wide_table(4, 5, "ab"), ["abab", "baba"], ["abc", "bca", "cab"], ["aab"]):
            table = least_moved(great)[2]
            for a in range(-5, 6):
                for b in range(-5, 6):
                    moved = moved_round(great, a, b)
                    self.assertEqual(how_many_moved(moved), how_many_moved(great))
                    i, j, least = least_moved(moved)
                    self.assertEqual(least, table)
                    self.assertEqual(moved_round(moved, i, j), table)

    def test_sizes_somewhat_beyond(self):
        self.assert_told(["ba" * 21] * 41, 2, (0, 1, ["ab" * 21] * 41))

    def test_told_anew(self):
        for great in (["ab"], ["ba"], ["ba", "ab"], ["a"], list(GREAT), GREAT[::-1]):
            assert_told_anew(self, least_moved, great)
            assert_told_anew(self, how_many_moved, great)

    def test_a_list_that_was_changed_is_asked_anew(self):
        great = ["ba"]
        self.assert_told(great, 2, (0, 1, ["ab"]))
        great.append("aa")
        self.assert_told(great, 4, (1, 1, ["aa", "ab"]))


class Refused(unittest.TestCase):

    def test_what_is_no_great_table(self):
        for thing in no_tables():
            assert_refused(self, "NoTable", round_places, thing, ["a"])
            assert_refused(self, "NoTable", moved_round, thing, 0, 0)
            assert_refused(self, "NoTable", how_many_moved, thing)
            assert_refused(self, "NoTable", least_moved, thing)

    def test_what_is_no_little_table(self):
        for thing in no_littles():
            assert_refused(self, "NoTable", round_places, GREAT, thing)
            assert_refused(self, "NoTable", round_places, ["?"], thing)
            assert_refused(self, "NoTable", round_places, thing, thing)
        assert_great_one_first(self, round_places)

    def test_what_is_no_whole_number(self):
        for thing in no_wholes():
            for other in (0, 1, -7, FAR):
                assert_refused(self, "NoNumber", moved_round, GREAT, thing, other)
                assert_refused(self, "NoNumber", moved_round, GREAT, other, thing)
            assert_refused(self, "NoNumber", moved_round, ["a"], thing, thing)

    def test_no_table_goes_ahead_of_no_number(self):
        for thing in (None, ["?"], ["ab", "c"], [], ("ab",)):
            for number in no_wholes():
                assert_refused(self, "NoTable", moved_round, thing, number, 0)
                assert_refused(self, "NoTable", moved_round, thing, 0, number)

    def test_a_refusal_changes_nothing(self):
        great = list(GREAT)
        assert_refused(self, "NoNumber", moved_round, great, 1, None)
        assert_refused(self, "NoTable", round_places, great, None)
        self.assertEqual(great, GREAT)
        self.assertEqual(moved_round(great, 1, 0), ["efgh", "ijkl", "abcd"])


if __name__ == "__main__":
    unittest.main()
