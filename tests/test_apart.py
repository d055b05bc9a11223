"""Points 1 to 4, 14 and 15: what the places cover, and the most that are apart."""

import unittest
from itertools import combinations

from tablefind.apart import most_apart, uncovered
from tablefind.places import all_places
from tablefind.poses import posed
from tests.by_cells import (
    are_apart, most_apart_by_choices, places_by_cells, signs_by_cells, uncovered_by_cells,
)
from tests.samples import (
    POSES, SIGNS, assert_cells, assert_great_one_first, assert_refused, assert_told_anew, freed, no_littles, no_tables,
    pairs_of_many_sizes, part_of, small_tables, wide_table,
)

GREAT = [
    "abcab",
    "cabca",
    "bcabc",
]

MOST = 14


def scattered(rows, columns, cells):
    """A table of points with an x on each of the cells."""
    return ["".join(["x" if (i, j) in cells else "." for j in range(columns)]) for i in range(rows)]


class Uncovered(unittest.TestCase):

    def assert_uncovered(self, great, little, cells):
        assert_cells(self, uncovered(great, little), cells, (great, little))

    def test_plain_examples(self):
        self.assert_uncovered(GREAT, ["a"], [(0, 1), (0, 2), (0, 4), (1, 0), (1, 2), (1, 3),
                                             (2, 0), (2, 1), (2, 3), (2, 4)])
        self.assert_uncovered(GREAT, ["ab"], [(0, 2), (1, 0), (1, 3), (1, 4), (2, 0), (2, 1), (2, 4)])
        self.assert_uncovered(GREAT, ["abc"], [(0, 3), (0, 4), (1, 0), (1, 4), (2, 0), (2, 1)])
        self.assert_uncovered(GREAT, ["ab", "ca"], [(0, 2), (2, 0), (2, 3), (2, 4)])
        self.assert_uncovered(GREAT, GREAT, [])
        self.assert_uncovered(["a"], ["a"], [])
        self.assert_uncovered(["a"], ["b"], [(0, 0)])
        self.assert_uncovered(["aaa"], ["aa"], [])
        self.assert_uncovered(["aaa"] * 3, ["aa"] * 2, [])
        self.assert_uncovered(["aabaa"], ["aa"], [(0, 2)])

    def test_a_free_cell_covers_nothing(self):
        self.assert_uncovered(["abc"], ["a?c"], [(0, 1)])
        self.assert_uncovered(["abc"], ["a??"], [(0, 1), (0, 2)])
        self.assert_uncovered(["abc"], ["??c"], [(0, 0), (0, 1)])
        self.assert_uncovered(["aaaa"], ["a?a"], [])
        self.assert_uncovered(["aaa"] * 3, ["?a?", "aaa", "?a?"], [(0, 0), (0, 2), (2, 0), (2, 2)])
        self.assert_uncovered(GREAT, ["a?", "?a"], [(0, 1), (0, 2), (0, 4), (1, 0), (1, 2), (1, 3),
                                                    (2, 0), (2, 1), (2, 3), (2, 4)])

    def test_free_cells_alone_and_no_place(self):
        for great in (["a"], GREAT, ["a" * 40], ["a"] * 40, wide_table(40, 40, "abc")):
            every = sorted(signs_by_cells(great))
            for little in (["?"], ["??"], ["?", "?"], ["?" * 12] * 12, ["x" * 12], ["x"], ["x?"], ["a" * 12] * 41):
                self.assert_uncovered(great, little, every)

    def test_small_tables(self):
        littles = small_tables(2, 2, "ab?") + [["ab?"], ["a?a"], ["abb", "?ab"]]
        for great in small_tables(2, 3, "ab") + [["abab", "babb", "aaba"], ["abb", "bab", "aab", "abb"]]:
            for little in littles:
                self.assert_uncovered(great, little, uncovered_by_cells(great, little))

    def test_many_sizes(self):
        for great, little in pairs_of_many_sizes():
            self.assert_uncovered(great, little, uncovered_by_cells(great, little))

    def test_great_sizes(self):
        for signs in ("ab", "abc", SIGNS):
            great = wide_table(40, 40, signs)
            for i, j in ((0, 0), (28, 28), (0, 28), (17, 9)):
                part = part_of(great, i, j, 12, 12)
                for little in (part, freed(part, 2), part[:1], [row[:1] for row in part], part_of(part, 0, 0, 2, 3)):
                    self.assert_uncovered(great, little, uncovered_by_cells(great, little))

    def test_all_signs_alike_in_the_greatest(self):
        great = ["a" * 40] * 40
        every = sorted(signs_by_cells(great))
        self.assert_uncovered(great, ["a" * 12] * 12, [])
        self.assert_uncovered(great, ["a" * 11 + "?"] * 12, [(i, 39) for i in range(40)])
        self.assert_uncovered(great, ["?" + "a" * 11] * 12, [(i, 0) for i in range(40)])
        self.assert_uncovered(great, ["?" * 12] * 11 + ["?" * 11 + "a"],
                              [(i, j) for i, j in every if i < 11 or j < 11])
        self.assert_uncovered(great, ["b" + "a" * 11] + ["a" * 12] * 11, every)

    def test_told_anew(self):
        for little in (["ab"], ["x"], ["?"], ["a?"], GREAT):
            assert_told_anew(self, uncovered, list(GREAT), little)

    def test_lists_that_were_changed_are_asked_anew(self):
        great, little = ["aab"], ["aa"]
        self.assert_uncovered(great, little, [(0, 2)])
        great.append("aaa")
        self.assert_uncovered(great, little, [(0, 2)])
        little[0] = "ab"
        self.assert_uncovered(great, little, [(0, 0), (1, 0), (1, 1), (1, 2)])


class MostApart(unittest.TestCase):

    def assert_most(self, great, little, places):
        assert_cells(self, most_apart(great, little), places, (great, little))

    def assert_by_choices(self, great, little):
        """Held against all choices; refused where there are too many places. Tells whether it was."""
        free_alone = not "".join(little).replace("?", "")
        if free_alone or len(places_by_cells(great, little)) > MOST:
            assert_refused(self, "TooMany", most_apart, great, little)
            return False
        self.assert_most(great, little, most_apart_by_choices(great, little))
        return True

    def test_plain_examples(self):
        self.assert_most(GREAT, ["a"], [(0, 0), (0, 3), (1, 1), (1, 4), (2, 2)])
        self.assert_most(GREAT, ["ab"], [(0, 0), (0, 3), (1, 1), (2, 2)])
        self.assert_most(GREAT, ["ab", "ca"], [(0, 0), (0, 3)])
        self.assert_most(GREAT, ["x"], [])
        self.assert_most(GREAT, ["a"] * 4, [])
        self.assert_most(GREAT, GREAT, [(0, 0)])
        self.assert_most(["a"], ["a"], [(0, 0)])
        self.assert_most(["aaaa"], ["aa"], [(0, 0), (0, 2)])
        self.assert_most(["ababa"], ["aba"], [(0, 0)])

    def test_of_several_the_first_list(self):
        self.assert_most(["aaa"], ["aa"], [(0, 0)])
        self.assert_most(["aaaaa"], ["aa"], [(0, 0), (0, 2)])
        self.assert_most(["a"] * 7, ["a", "a", "a"], [(0, 0), (3, 0)])
        self.assert_most(["aaa"] * 3, ["aa"] * 2, [(0, 0)])
        self.assert_most(["aaaa"] * 3, ["aa"] * 2, [(0, 0), (0, 2)])
        self.assert_most(["aaaa"] * 4, ["aa"] * 2, [(0, 0), (0, 2), (2, 0), (2, 2)])
        self.assert_most(["abababa"], ["aba"], [(0, 0), (0, 4)])
        self.assert_most(["aaa", "aaa"], ["aa"], [(0, 0), (1, 0)])
        self.assert_most(["aaa", "aaa"], ["a", "a"], [(0, 0), (0, 1), (0, 2)])

    def test_the_first_place_is_left_out_where_that_makes_more(self):
        self.assert_most(["abaa", "baaa", "aaba"], ["?a", "aa"], [(0, 2), (1, 0)])
        self.assert_most(["baaa", "aaaa", "aabb"], ["aa", "a?"], [(0, 2), (1, 0)])

    def test_free_cells_cover_nothing(self):
        self.assert_most(["aaaa"], ["a?"], [(0, 0), (0, 1), (0, 2)])
        self.assert_most(["aaaa"], ["?a"], [(0, 0), (0, 1), (0, 2)])
        self.assert_most(["aaaaa"], ["a?a"], [(0, 0), (0, 1)])
        self.assert_most(["aaaaaa"], ["a?a"], [(0, 0), (0, 1)])
        self.assert_most(["aaaa"] * 3, ["a?", "?a"], [(0, 0), (0, 1), (0, 2), (1, 0)])
        self.assert_most(["aaa"] * 4, ["?a", "a?"], [(0, 0), (0, 1), (1, 1), (2, 1)])

    def test_places_that_share_no_cell_are_all_told(self):
        for great, little in ((GREAT, ["abc"]), (GREAT, ["c?a"]), (["ab", "ba"], ["a"]), (["a" * 14], ["a"])):
            self.assert_most(great, little, all_places(great, little))

    def test_places_that_all_share_a_cell(self):
        little = ["x" + "?" * 6] + ["?" * 7] * 5 + ["?" * 6 + "x"]
        self.assert_most(["a" * 12], ["a" * 6], [(0, 0), (0, 6)])
        self.assert_most(["a" * 11], ["a" * 6], [(0, 0)])
        self.assert_most(["a"] * 17, ["a"] * 12, [(0, 0)])
        self.assert_most(scattered(13, 13, [(0, 0), (6, 6), (12, 12)]), little, [(0, 0)])

    def test_at_most_fourteen_places(self):
        self.assert_most(["a" * 14], ["a"], [(0, j) for j in range(14)])
        self.assert_most(["a"] * 14, ["a"], [(i, 0) for i in range(14)])
        self.assert_most(["a" * 15], ["aa"], [(0, j) for j in range(0, 14, 2)])
        self.assert_most(["a" * 25], ["a" * 12], [(0, 0), (0, 12)])
        self.assert_most(["a" * 8] * 3, ["aa"] * 2, [(0, 0), (0, 2), (0, 4), (0, 6)])
        self.assert_most(["a" * 7, "b" * 7] * 2, ["a"], [(i, j) for i in (0, 2) for j in range(7)])
        self.assert_most(["a" * 40] * 40, ["a" * 27] * 40, [(0, 0)])

    def test_a_fifteenth(self):
        for great, little in (
            (["a" * 15], ["a"]), (["a"] * 15, ["a"]), (["a" * 16], ["aa"]), (["a" * 26], ["a" * 12]),
            (["a" * 6] * 4, ["aa"] * 2), (["a" * 5, "b" * 5] * 3, ["a"]), (["a" * 40] * 40, ["a" * 12] * 12),
            (["a" * 40] * 40, ["a"]), (["a" * 16], ["a?"]), (["a"] * 16, ["?", "a"]),
        ):
            self.assertGreater(len(places_by_cells(great, little)), MOST)
            assert_refused(self, "TooMany", most_apart, great, little)

    def test_fourteen_and_fifteen_scattered_places(self):
        cells = [(i, (7 * i + 3) % 40) for i in range(0, 40, 2)]
        for little in (["x"], ["x."], [".x"], [".x."], ["x?"], ["?x", "?."]):
            self.assert_most(scattered(40, 40, cells[:14]), little,
                             places_by_cells(scattered(40, 40, cells[:14]), little))
        for many in range(21):
            great = scattered(40, 40, cells[:many])
            if many > MOST:
                assert_refused(self, "TooMany", most_apart, great, ["x"])
            else:
                self.assert_most(great, ["x"], cells[:many])

    def test_free_cells_alone(self):
        for great in (["a"], ["ab"], GREAT, ["a" * 14], ["a" * 15], ["a" * 40] * 40):
            for little in (["?"], ["??"], ["?", "?"], ["?" * 12] * 12, ["?" * 12], ["?"] * 12, ["?" * 40] * 40):
                assert_refused(self, "TooMany", most_apart, great, little)

    def test_small_tables(self):
        littles = small_tables(2, 2, "ab?") + [["ab?"], ["a?a"], ["a", "b", "a"], ["abb", "?ab"]]
        for great in small_tables(2, 3, "ab") + [["aabab"], ["abb", "bab", "aab", "abb"]]:
            for little in littles:
                self.assert_by_choices(great, little)

    def test_crossing_places(self):
        littles = [["?a", "aa"], ["aa", "a?"], ["?a?", "aaa"], ["a?a"], ["?a", "a?", "?a"], ["a?", "aa"], ["aa"],
                   ["a", "a"], ["a?a", "???", "a?a"]]
        told = 0
        for step in range(1, 14):
            for rows, columns in ((3, 6), (4, 4), (5, 3), (5, 5), (1, 12), (12, 1)):
                great = wide_table(rows, columns, "aab", step)
                told += sum([self.assert_by_choices(great, little) for little in littles])
        self.assertGreater(told, 300)

    def test_the_sizes_told(self):
        for great, little in pairs_of_many_sizes():
            places = places_by_cells(great, little)
            if len(places) <= 9 or len(places) > MOST:
                self.assert_by_choices(great, little)

    def test_great_sizes(self):
        for signs, rows, columns in (("abc", 2, 3), ("abc", 3, 2), (SIGNS, 1, 1), ("ab", 3, 3), ("ab", 12, 12)):
            great = wide_table(40, 40, signs)
            for i, j in ((0, 0), (28, 28), (11, 20), (30, 3)):
                part = part_of(great, i, j, rows, columns)
                self.assert_by_choices(great, part)
                self.assert_by_choices(great, freed(part, 7))

    def test_what_is_told_is_apart_and_no_more_places_are(self):
        great = wide_table(6, 6, "aab")
        for little in (["aa"], ["a?a"], ["ab", "aa"], ["aa", "?a"], ["b", "a"]):
            places = places_by_cells(great, little)
            if len(places) > MOST:
                continue
            told = most_apart(great, little)
            self.assertTrue(are_apart(little, told))
            more = combinations(places, len(told) + 1)
            self.assertFalse(any([are_apart(little, chosen) for chosen in more]))

    def test_turned_as_many_are_apart(self):
        for great, little in ((GREAT, ["ab", "ca"]), (["abaa", "baaa", "aaba"], ["?a", "aa"]),
                              (["aaaa", "aaba", "aaaa"], ["aa", "a?"]), (wide_table(5, 6, "ab"), ["a?b", "??a"])):
            for pose in POSES:
                other, mine = posed(great, pose), posed(little, pose)
                self.assertEqual(len(most_apart(other, mine)), len(most_apart(great, little)))
                self.assertEqual(len(uncovered(other, mine)), len(uncovered(great, little)))

    def test_told_anew(self):
        for little in (["ab"], ["x"], ["a?"], GREAT, ["ab", "ca"], ["a"] * 4):
            assert_told_anew(self, most_apart, list(GREAT), little)

    def test_lists_that_were_changed_are_asked_anew(self):
        great, little = ["aaa"], ["aa"]
        self.assert_most(great, little, [(0, 0)])
        great.append("aaa")
        self.assert_most(great, little, [(0, 0), (1, 0)])
        little[0] = "a?"
        self.assert_most(great, little, [(0, 0), (0, 1), (1, 0), (1, 1)])
        great[0] = "a" * 40
        great[1] = "a" * 40
        assert_refused(self, "TooMany", most_apart, great, little)
        little[0] = "b?"
        self.assert_most(great, little, [])


class Refused(unittest.TestCase):

    def test_what_is_no_great_table(self):
        for asked in (uncovered, most_apart):
            for thing in no_tables():
                assert_refused(self, "NoTable", asked, thing, ["a"])
                assert_refused(self, "NoTable", asked, thing, ["?"])

    def test_what_is_no_little_table(self):
        for asked in (uncovered, most_apart):
            for thing in no_littles():
                assert_refused(self, "NoTable", asked, GREAT, thing)
                assert_refused(self, "NoTable", asked, ["?"], thing)
                assert_refused(self, "NoTable", asked, thing, thing)
            assert_great_one_first(self, asked)

    def test_no_table_goes_ahead_of_too_many(self):
        for great in (["?" * 40] * 40, ["a" * 40] * 39 + ["a" * 39 + "?"], ["a" * 40] * 39 + ["a" * 39]):
            for little in (["a"], ["?"], ["??"]):
                assert_refused(self, "NoTable", most_apart, great, little)
        assert_refused(self, "NoTable", most_apart, ["a" * 40] * 40, ["a", ""])
        assert_refused(self, "NoTable", most_apart, ["a" * 40] * 40, ["?", "??"])

    def test_a_refusal_changes_nothing(self):
        great = ["a" * 15]
        assert_refused(self, "TooMany", most_apart, great, ["a"])
        assert_refused(self, "TooMany", most_apart, great, ["?"])
        assert_refused(self, "NoTable", uncovered, great, [])
        self.assertEqual(great, ["a" * 15])
        self.assertEqual(most_apart(great, ["a" * 8]), [(0, 0)])


if __name__ == "__main__":
    unittest.main()
