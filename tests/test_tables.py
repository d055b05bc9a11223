"""Points 1 to 3 and 5: what a table is, and what is counted in it."""

import unittest
from copy import deepcopy

from tablefind.tables import how_many_free, is_little, is_table, signs_counted, size_of
from tests.samples import SIGNS, assert_refused, freed, no_littles, no_tables, small_tables, wide_table

ASKED = (size_of, how_many_free, signs_counted)


class WhatATableIs(unittest.TestCase):

    def test_small_tables(self):
        for table in small_tables(3, 3, "ab"):
            self.assertIs(is_table(table), True, table)
            self.assertIs(is_little(table), True, table)

    def test_a_free_cell_stands_in_little_tables_only(self):
        for table in small_tables(2, 3, "a?"):
            self.assertIs(is_little(table), True, table)
            self.assertIs(is_table(table), "?" not in "".join(table), table)

    def test_a_free_cell_wherever_it_is(self):
        for i in range(4):
            for j in range(5):
                rows = [["z"] * 5 for _ in range(4)]
                rows[i][j] = "?"
                table = ["".join(row) for row in rows]
                self.assertIs(is_table(table), False, table)
                self.assertIs(is_little(table), True, table)

    def test_each_sign(self):
        for sign in SIGNS:
            for table in ([sign], ["a" + sign], [sign + "a", "bc"], ["abc", "de" + sign]):
                self.assertIs(is_table(table), True, table)
                self.assertIs(is_little(table), True, table)

    def test_a_blank_a_tab_a_line_end_wherever_it_is(self):
        for sign in " \t\n\r":
            for i in range(3):
                for j in range(4):
                    rows = [["q"] * 4 for _ in range(3)]
                    rows[i][j] = sign
                    table = ["".join(row) for row in rows]
                    self.assertIs(is_table(table), False, table)
                    self.assertIs(is_little(table), False, table)

    def test_rows_of_unlike_lengths_wherever_they_are(self):
        for many in (2, 3, 5):
            for at in range(many):
                for row in ("", "ab", "abcd", "abcabc"):
                    table = ["abc"] * many
                    table[at] = row
                    self.assertIs(is_table(table), False, table)
                    self.assertIs(is_little(table), False, table)

    def test_all_sizes_of_one_row_or_one_column(self):
        for many in range(1, 61):
            for table in (["a" * many], ["a"] * many):
                self.assertIs(is_table(table), True)
                self.assertIs(is_little(table), True)

    def test_up_to_sixty_rows_and_columns(self):
        for rows, columns in ((60, 60), (60, 59), (1, 60), (60, 1), (40, 40), (41, 40), (40, 41), (12, 12), (13, 13)):
            table = wide_table(rows, columns, SIGNS)
            self.assertIs(is_table(table), True)
            self.assertIs(is_little(table), True)
            self.assertIs(is_table(freed(table, 11)), False)
            self.assertIs(is_little(freed(table, 11)), True)

    def test_sixty_rows_of_which_the_last_is_wrong(self):
        for last in ("a" * 59, "a" * 61, "a" * 59 + " ", "a" * 59 + "\n", "", None, ["a"] * 60):
            table = ["a" * 60] * 59 + [last]
            self.assertIs(is_table(table), False)
            self.assertIs(is_little(table), False)

    def test_of_anything(self):
        for thing in no_tables():
            self.assertIs(is_table(thing), False)
        for thing in no_littles():
            self.assertIs(is_little(thing), False)

    def test_the_same_again_and_of_a_list_that_was_changed(self):
        table = ["ab", "cd"]
        for _ in range(3):
            self.assertIs(is_table(table), True)
            self.assertIs(is_little(table), True)
        table.append("ef")
        self.assertIs(is_table(table), True)
        table.append("g")
        self.assertIs(is_table(table), False)
        self.assertIs(is_little(table), False)
        table[3] = "g?"
        self.assertIs(is_table(table), False)
        self.assertIs(is_little(table), True)
        table.clear()
        self.assertIs(is_table(table), False)
        self.assertIs(is_little(table), False)


class WhatIsCounted(unittest.TestCase):

    def assert_counts(self, table):
        text = "".join(table)
        told = size_of(table)
        self.assertEqual(told, (len(table), len(table[0])))
        self.assertIs(type(told), tuple)
        self.assertEqual([type(number) for number in told], [int, int])
        told = how_many_free(table)
        self.assertEqual(told, text.count("?"))
        self.assertIs(type(told), int)
        told = signs_counted(table)
        self.assertEqual(told, {sign: text.count(sign) for sign in sorted(set(text)) if sign != "?"})
        self.assertIs(type(told), dict)
        self.assertEqual([type(number) for number in told.values()], [int] * len(told))

    def test_plain_examples(self):
        self.assertEqual(size_of(["abc", "a?c"]), (2, 3))
        self.assertEqual(size_of(["a"]), (1, 1))
        self.assertEqual(how_many_free(["abc", "a?c"]), 1)
        self.assertEqual(how_many_free(["ab", "cd"]), 0)
        self.assertEqual(how_many_free(["??", "??", "??"]), 6)
        self.assertEqual(signs_counted(["abc", "a?c"]), {"a": 2, "b": 1, "c": 2})
        self.assertEqual(signs_counted(["?"]), {})
        self.assertEqual(signs_counted(["??", "??"]), {})

    def test_small_tables(self):
        for table in small_tables(2, 3, "ab?"):
            self.assert_counts(table)

    def test_one_row_and_one_column(self):
        for many in range(1, 61):
            row = wide_table(1, many, "ab?c")
            self.assert_counts(row)
            self.assert_counts(list(row[0]))

    def test_great_sizes(self):
        for rows, columns in ((12, 12), (40, 40), (60, 60), (60, 1), (1, 60), (41, 60)):
            for signs in ("a", "ab", SIGNS, "?", "?a"):
                self.assert_counts(wide_table(rows, columns, signs))
            for step in (1, 2, 3, 11):
                self.assert_counts(freed(wide_table(rows, columns, SIGNS), step))

    def test_each_sign(self):
        for sign in SIGNS:
            self.assert_counts([sign])
            self.assert_counts([sign + "?", sign + sign])

    def test_a_told_dict_is_a_new_one(self):
        table = ["aab", "c?a"]
        first = signs_counted(table)
        second = signs_counted(table)
        self.assertIsNot(first, second)
        first["a"] = 90
        del first["b"]
        self.assertEqual(second, {"a": 3, "b": 1, "c": 1})
        self.assertEqual(signs_counted(table), {"a": 3, "b": 1, "c": 1})
        second.clear()
        self.assertEqual(signs_counted(["aab", "c?a"]), {"a": 3, "b": 1, "c": 1})

    def test_a_list_that_was_changed_is_counted_anew(self):
        table = ["aab", "c?a"]
        self.assertEqual((size_of(table), how_many_free(table), signs_counted(table)),
                         ((2, 3), 1, {"a": 3, "b": 1, "c": 1}))
        table.append("???")
        table[0] = "ddd"
        self.assertEqual((size_of(table), how_many_free(table), signs_counted(table)),
                         ((3, 3), 4, {"a": 1, "c": 1, "d": 3}))

    def test_what_is_handed_in_is_not_changed(self):
        for table in (["a"], ["?"], ["aab", "c?a"], wide_table(40, 40, "ab?"), ["a b"], ["ab", "c"], []):
            before = deepcopy(table)
            for asked in (is_table, is_little) + ASKED:
                try:
                    asked(table)
                except ValueError:
                    pass
                self.assertEqual(table, before)

    def test_refused(self):
        for asked in ASKED:
            for thing in no_littles():
                assert_refused(self, "NoTable", asked, thing)

    def test_a_refusal_changes_nothing(self):
        for asked in ASKED:
            before = asked(["aab", "c?a"])
            assert_refused(self, "NoTable", asked, ["aab", "c"])
            self.assertEqual(asked(["aab", "c?a"]), before)


if __name__ == "__main__":
    unittest.main()
