"""Points 1 to 4 and 19: rows that come, are taken back, and go."""

import unittest
from random import Random

from tablefind.errors import TableError
from tablefind.keeper import Keeper
from tablefind.places import all_places
from tests.by_cells import KeptByCells, places_by_cells
from tests.samples import (
    FAR, SIGNS, Plain, assert_cells, assert_refused, freed, no_littles, no_rows, no_wholes, part_of, refusal_text,
    small_tables, wide_table,
)

LITTLE = ["a?", "?a"]


def filled(little, rows):
    """A Keeper of as many columns as the rows have, to which they have come."""
    keeper = Keeper(little, len(rows[0]))
    for row in rows:
        keeper.row(row)
    return keeper


class Kept(unittest.TestCase):

    def assert_kept(self, keeper, rows, cells):
        told = keeper.rows()
        self.assertEqual(told, rows)
        self.assertIs(type(told), list)
        assert_cells(self, keeper.cells(), cells)

    def assert_like_model(self, keeper, model):
        self.assert_kept(keeper, model.kept, model.places())

    def assert_steps(self, little, columns, steps):
        """That a Keeper and the model tell the same at each step: a row that comes, "<" back, "^" first gone."""
        keeper, model = Keeper(little, columns), KeptByCells(little, columns)
        for step in steps:
            if step == "<":
                assert_cells(self, keeper.back(), model.back(), (little, steps))
            elif step == "^":
                assert_cells(self, keeper.first_gone(), model.first_gone(), (little, steps))
            else:
                assert_cells(self, keeper.row(step), model.row(step), (little, steps))
            self.assert_like_model(keeper, model)


class RowsThatCome(Kept):

    def test_plain_example(self):
        keeper = Keeper(LITTLE, 5)
        self.assert_kept(keeper, [], [])
        assert_cells(self, keeper.row("abcab"), [])
        assert_cells(self, keeper.row("cabca"), [(0, 0), (0, 3)])
        assert_cells(self, keeper.row("bcabc"), [(1, 1)])
        self.assert_kept(keeper, ["abcab", "cabca", "bcabc"], [(0, 0), (0, 3), (1, 1)])

    def test_a_little_table_of_one_row(self):
        keeper = Keeper(["ab"], 4)
        assert_cells(self, keeper.row("abab"), [(0, 0), (0, 2)])
        assert_cells(self, keeper.row("babb"), [(1, 1)])
        assert_cells(self, keeper.row("bbbb"), [])
        self.assert_kept(keeper, ["abab", "babb", "bbbb"], [(0, 0), (0, 2), (1, 1)])

    def test_a_little_table_of_free_cells_alone(self):
        keeper = Keeper(["??", "??"], 3)
        assert_cells(self, keeper.row("abc"), [])
        assert_cells(self, keeper.row("abc"), [(0, 0), (0, 1)])
        assert_cells(self, keeper.row("cba"), [(1, 0), (1, 1)])
        assert_cells(self, keeper.back(), [(1, 0), (1, 1)])
        assert_cells(self, keeper.first_gone(), [(0, 0), (0, 1)])
        self.assert_kept(keeper, ["abc"], [])

    def test_free_rows_first_and_last(self):
        for little in (["??", "ab", "??"], ["ab", "??", "??"], ["??", "??", "ab"], ["??", "??"], ["?"], ["a", "?"]):
            self.assert_steps(little, 3, ["abc", "aab", "abb", "cab", "<", "^", "abc", "^", "^", "aba", "<", "<"])

    def test_wider_than_the_columns(self):
        for columns, little in ((1, ["ab"]), (1, ["??"]), (3, ["abca"]), (3, ["????"]), (5, ["abcabc", "??????"])):
            self.assert_steps(little, columns, ["abcab"[:columns]] * 4 + ["<", "^"])

    def test_of_more_rows_than_have_come(self):
        keeper = Keeper(["a"] * 12, 2)
        for k in range(11):
            assert_cells(self, keeper.row("ab"), [])
        assert_cells(self, keeper.cells(), [])
        assert_cells(self, keeper.row("ab"), [(0, 0)])
        assert_cells(self, keeper.row("ab"), [(1, 0)])
        assert_cells(self, keeper.row("bb"), [])
        self.assert_kept(keeper, ["ab"] * 13 + ["bb"], [(0, 0), (1, 0)])

    def test_one_to_forty_columns(self):
        for columns in range(1, 41):
            great = wide_table(5, columns, "ab", step=3)
            part = part_of(great, 1, columns // 2, 2, 3)
            for little in (part, freed(part, 2), ["?"], ["a"], great[:1] if columns <= 12 else ["ab"]):
                keeper = filled(little, great)
                self.assert_kept(keeper, great, places_by_cells(great, little))
                for wrong in (great[0] + "a", great[0][:-1]):
                    assert_refused(self, "NoRow", keeper.row, wrong)

    def test_any_sign_may_come(self):
        for sign in SIGNS:
            keeper = Keeper([sign], 2)
            assert_cells(self, keeper.row(sign + sign), [(0, 0), (0, 1)])
            assert_cells(self, keeper.row("ab" if sign not in "ab" else "cd"), [])

    def test_small_tables(self):
        for little in small_tables(2, 2, "ab?"):
            for rows in small_tables(3, 2, "ab"):
                keeper = Keeper(little, len(rows[0]))
                told = []
                for i, row in enumerate(rows):
                    cells = keeper.row(row)
                    self.assertEqual([r + len(little) - 1 for r, _ in cells], [i] * len(cells))
                    told.extend(cells)
                self.assertEqual(told, places_by_cells(rows, little))
                self.assertEqual(keeper.cells(), told)

    def test_the_cells_are_those_of_all_rows_at_once(self):
        great = wide_table(40, 40, "ab")
        for little in (["a"], ["ab", "ba"], ["a?", "?b", "a?"], part_of(great, 28, 28, 12, 12), ["?" * 12] * 12, ["!"]):
            keeper = Keeper(little, 40)
            told = []
            for i, row in enumerate(great):
                told.extend(keeper.row(row))
                self.assertEqual(told, all_places(great[:i + 1], little))
                self.assertEqual(keeper.cells(), told)
                self.assertEqual(keeper.rows(), great[:i + 1])


class RowsThatGo(Kept):

    def test_taken_back(self):
        keeper = filled(LITTLE, ["abcab", "cabca", "bcabc"])
        assert_cells(self, keeper.back(), [(1, 1)])
        self.assert_kept(keeper, ["abcab", "cabca"], [(0, 0), (0, 3)])
        assert_cells(self, keeper.back(), [(0, 0), (0, 3)])
        self.assert_kept(keeper, ["abcab"], [])
        assert_cells(self, keeper.back(), [])
        self.assert_kept(keeper, [], [])

    def test_the_first_goes(self):
        keeper = filled(LITTLE, ["abcab", "cabca", "bcabc"])
        assert_cells(self, keeper.first_gone(), [(0, 0), (0, 3)])
        self.assert_kept(keeper, ["cabca", "bcabc"], [(0, 1)])
        assert_cells(self, keeper.first_gone(), [(0, 1)])
        self.assert_kept(keeper, ["bcabc"], [])
        assert_cells(self, keeper.first_gone(), [])
        self.assert_kept(keeper, [], [])

    def test_the_cells_that_go_are_told_as_they_were_named(self):
        keeper = filled(["a"], ["ab", "ba", "aa"])
        assert_cells(self, keeper.first_gone(), [(0, 0)])
        assert_cells(self, keeper.first_gone(), [(0, 1)])
        assert_cells(self, keeper.first_gone(), [(0, 0), (0, 1)])
        keeper = filled(["a"], ["ab", "ba", "aa"])
        assert_cells(self, keeper.back(), [(2, 0), (2, 1)])
        assert_cells(self, keeper.back(), [(1, 1)])

    def test_places_that_have_both_the_first_and_the_last_row(self):
        keeper = filled(["a", "b"], ["aa", "bb"])
        assert_cells(self, keeper.back(), [(0, 0), (0, 1)])
        assert_cells(self, keeper.row("bb"), [(0, 0), (0, 1)])
        assert_cells(self, keeper.first_gone(), [(0, 0), (0, 1)])
        self.assert_kept(keeper, ["bb"], [])

    def test_only_the_places_on_the_row_that_goes_go(self):
        keeper = filled(["a"], ["aa", "aa", "aa"])
        assert_cells(self, keeper.first_gone(), [(0, 0), (0, 1)])
        self.assert_kept(keeper, ["aa", "aa"], [(0, 0), (0, 1), (1, 0), (1, 1)])
        assert_cells(self, keeper.back(), [(1, 0), (1, 1)])
        self.assert_kept(keeper, ["aa"], [(0, 0), (0, 1)])

    def test_a_row_that_comes_again_behind_one_that_was_taken_back(self):
        keeper = filled(["ab", "ba"], ["aba", "bab"])
        assert_cells(self, keeper.back(), [(0, 0)])
        assert_cells(self, keeper.row("aaa"), [])
        assert_cells(self, keeper.back(), [])
        assert_cells(self, keeper.row("bab"), [(0, 0)])
        assert_cells(self, keeper.row("aba"), [(1, 1)])
        self.assert_kept(keeper, ["aba", "bab", "aba"], [(0, 0), (1, 1)])

    def test_a_row_that_comes_behind_the_first_that_went(self):
        keeper = filled(["ab", "ba"], ["aba", "bab"])
        assert_cells(self, keeper.first_gone(), [(0, 0)])
        assert_cells(self, keeper.row("aba"), [(0, 1)])
        assert_cells(self, keeper.row("bab"), [(1, 0)])
        self.assert_kept(keeper, ["bab", "aba", "bab"], [(0, 1), (1, 0)])

    def test_all_orders_of_few_steps(self):
        orders = [[]]
        for _ in range(6):
            orders = [order + [step] for order in orders for step in ("ab", "ba", "<", "^")]
        for order in orders:
            rows = [1 if step in ("ab", "ba") else -1 for step in order]
            if all([sum(rows[:k]) >= 0 for k in range(7)]):
                self.assert_steps(["a?", "?a"], 2, order)

    def test_many_steps_in_any_order(self):
        chance = Random(19)
        for little in (["a"], ["ab"], ["a", "b"], ["a?", "?b"], ["?a?", "b?b", "?a?"], ["a?"] * 5, ["??"], ["b" * 12]):
            for columns in (1, 2, 5, 12) if len(little) > 1 else (1, 40):
                steps, many = [], 0
                for _ in range(60):
                    step = chance.choice("<^rrrr") if 0 < many < 40 else "<" if many else "r"
                    many += 1 if step == "r" else -1
                    row = "".join(chance.choices("aab", k=columns))
                    steps.append(row if step == "r" else step)
                self.assert_steps(little, columns, steps)

    def test_where_there_is_no_row(self):
        keeper = Keeper(LITTLE, 3)
        for _ in range(2):
            assert_refused(self, "NoNumber", keeper.back)
            assert_refused(self, "NoNumber", keeper.first_gone)
            self.assert_kept(keeper, [], [])
        for go in (keeper.back, keeper.first_gone):
            keeper.row("aba")
            keeper.row("aab")
            go()
            go()
            assert_refused(self, "NoNumber", keeper.back)
            assert_refused(self, "NoNumber", keeper.first_gone)
            self.assert_kept(keeper, [], [])
        assert_cells(self, keeper.row("aba"), [])
        assert_cells(self, keeper.row("aab"), [(0, 0)])


class FortyRows(Kept):

    def test_a_forty_first_row(self):
        great = wide_table(40, 3, "ab")
        keeper = filled(LITTLE, great)
        cells = places_by_cells(great, LITTLE)
        for row in ("aaa", "aba", great[-1]):
            assert_refused(self, "TooMany", keeper.row, row)
            self.assert_kept(keeper, great, cells)

    def test_a_row_that_is_none_goes_ahead(self):
        keeper = filled(["a"], ["ab"] * 40)
        for thing in no_rows(2):
            assert_refused(self, "NoRow", keeper.row, thing)
        self.assertNotEqual(refusal_text(keeper.row, "abc"), refusal_text(keeper.row, "ab"))
        self.assertEqual(keeper.rows(), ["ab"] * 40)

    def test_behind_a_row_that_went_another_comes(self):
        keeper = filled(["a", "b"], ["ab", "ba"] * 20)
        assert_cells(self, keeper.back(), [(38, 0)])
        assert_cells(self, keeper.row("bb"), [(38, 0)])
        assert_refused(self, "TooMany", keeper.row, "ab")
        assert_cells(self, keeper.first_gone(), [(0, 0)])
        assert_cells(self, keeper.row("ab"), [])
        assert_refused(self, "TooMany", keeper.row, "ab")
        rows = (["ab", "ba"] * 20)[1:-1] + ["bb", "ab"]
        self.assert_kept(keeper, rows, places_by_cells(rows, ["a", "b"]))

    def test_many_more_than_forty_may_come_and_go(self):
        keeper, model = Keeper(["a?", "?a"], 4), KeptByCells(["a?", "?a"], 4)
        great = wide_table(40, 4, "ab") * 3
        for k, row in enumerate(great):
            if k >= 40:
                assert_refused(self, "TooMany", keeper.row, row)
                assert_cells(self, keeper.first_gone(), model.first_gone())
            assert_cells(self, keeper.row(row), model.row(row))
        self.assert_like_model(keeper, model)
        self.assertEqual(len(keeper.rows()), 40)


class Refused(Kept):

    def test_what_is_no_little_table(self):
        for thing in no_littles():
            assert_refused(self, "NoTable", Keeper, thing, 3)

    def test_what_is_no_table_goes_ahead(self):
        text = refusal_text(Keeper, None, 3)
        for wrong in (0, 41, -1, None, "3", True, [], FAR, Plain()):
            for thing in (None, "ab", [], ["ab", "a"], [" "], 3):
                assert_refused(self, "NoTable", Keeper, thing, wrong)
            self.assertEqual(refusal_text(Keeper, None, wrong), text)
            self.assertNotEqual(refusal_text(Keeper, ["a"], wrong), text)

    def test_what_is_no_number_of_columns(self):
        for little in (["a"], ["?"], LITTLE, ["?" * 12] * 12):
            for thing in no_wholes() + [0, -1, -40, 41, 42, 80, FAR, -FAR]:
                assert_refused(self, "NoNumber", Keeper, little, thing)
        for columns in (1, 2, 39, 40):
            self.assertEqual(Keeper(["a"], columns).rows(), [])

    def test_what_is_no_row(self):
        for columns in (1, 2, 3, 12, 40):
            keeper = Keeper(["a"], columns)
            for thing in no_rows(columns):
                assert_refused(self, "NoRow", keeper.row, thing)
            self.assert_kept(keeper, [], [])
            row = "a" + "b" * (columns - 1)
            assert_cells(self, keeper.row(row), [(0, 0)])
            for thing in no_rows(columns):
                assert_refused(self, "NoRow", keeper.row, thing)
            self.assert_kept(keeper, [row], [(0, 0)])

    def test_what_is_refused_changes_nothing(self):
        keeper, model = Keeper(["a?", "?a"], 3), KeptByCells(["a?", "?a"], 3)
        for row in wide_table(20, 3, "aab"):
            for thing in ("aa", "aaaa", "a?a", None, ["aaa"]):
                with self.assertRaises(TableError):
                    keeper.row(thing)
            assert_cells(self, keeper.row(row), model.row(row))
            self.assert_like_model(keeper, model)


class Copies(Kept):

    def test_a_little_table_that_is_changed_afterwards(self):
        little = ["ab", "ba"]
        keeper = Keeper(little, 3)
        little[0] = "xx"
        keeper.row("aba")
        little.append("yy")
        assert_cells(self, keeper.row("bab"), [(0, 0)])
        little.clear()
        assert_cells(self, keeper.row("aba"), [(1, 1)])
        self.assert_kept(keeper, ["aba", "bab", "aba"], [(0, 0), (1, 1)])

    def test_a_little_table_is_not_changed(self):
        little = ["a?", "?a"]
        keeper = Keeper(little, 3)
        for row in ("aba", "bab", "aab"):
            keeper.row(row)
        keeper.back()
        keeper.first_gone()
        self.assertEqual(little, ["a?", "?a"])

    def test_each_told_list_is_a_new_one(self):
        little = ["a"]
        keeper = Keeper(little, 2)
        told = [keeper.row("aa"), keeper.row("ab"), keeper.rows(), keeper.rows(), keeper.cells(), keeper.cells(),
                keeper.back(), keeper.row("ba"), keeper.first_gone(), keeper.rows(), keeper.cells(), little]
        for k, one in enumerate(told):
            for other in told[k + 1:]:
                self.assertIsNot(one, other)

    def test_what_is_done_to_it_changes_nothing_told_later(self):
        keeper, model = Keeper(["a"], 2), KeptByCells(["a"], 2)
        for row in ("aa", "ab", "bb", "ba"):
            told = keeper.row(row)
            self.assertEqual(told, model.row(row))
            told.append("changed")
            for ask in (keeper.rows, keeper.cells):
                ask().append("aa")
                ask().clear()
                ask().extend(["aa", (0, 0)])
            self.assert_like_model(keeper, model)
        keeper.rows()[0] = "bb"
        keeper.back().append((0, 0))
        model.back()
        keeper.first_gone().clear()
        model.first_gone()
        self.assert_like_model(keeper, model)

    def test_an_empty_list_is_a_new_one_too(self):
        keeper = Keeper(["ab", "ba"], 3)
        for ask in (keeper.rows, keeper.cells, keeper.rows, keeper.cells):
            told = ask()
            self.assertEqual(told, [])
            told.append("aaa")
        keeper.row("aba").append((0, 0))
        assert_cells(self, keeper.cells(), [])
        keeper.first_gone().append((0, 0))
        self.assert_kept(keeper, [], [])

    def test_the_same_asked_again_is_answered_the_same(self):
        keeper = filled(LITTLE, ["abcab", "cabca", "bcabc"])
        for _ in range(3):
            self.assert_kept(keeper, ["abcab", "cabca", "bcabc"], [(0, 0), (0, 3), (1, 1)])

    def test_two_keepers_beside_each_other(self):
        little = ["a"]
        one, other = Keeper(little, 2), Keeper(little, 3)
        one.row("ab")
        self.assert_kept(other, [], [])
        other.row("bab")
        other.row("aaa")
        one.row("ba")
        one.first_gone()
        self.assert_kept(one, ["ba"], [(0, 1)])
        self.assert_kept(other, ["bab", "aaa"], [(0, 1), (1, 0), (1, 1), (1, 2)])
        with self.assertRaises(TableError):
            one.row("aaa")


if __name__ == "__main__":
    unittest.main()
