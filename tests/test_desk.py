"""Points 2, 3, 21 and 22: the desk, what is put there, and what is refused."""

import unittest

from tablefind.desk import Desk
from tests.by_cells import moved_by_steps, posed_by_cells, table_read_by_signs, table_written_by_signs
from tests.samples import (
    FAR, POSES, SIGNS, Alike, Plain, assert_refused, desk_of, freed, no_poses, refusal_text, wide_table,
)

# The words with which the rows of the desk begin.
WORDS = "table pose moved drop find any round apart near least twice same show names".split()

GREAT = ["abcab", "cabca", "bcabc"]

# One row of each kind, for a desk with tables by the names a and b.
ROWS = ["table a ab/cd", "pose a b 1", "moved a b 1 2", "drop a", "find a b", "any a b", "round a b", "apart a b",
        "near a b", "least a", "twice a", "same a", "show a", "names"]


def tables_of_many_sizes():
    """Tables with signs of all kinds and with free cells, up to forty by forty."""
    told = []
    for rows, columns in ((1, 1), (1, 40), (40, 1), (2, 3), (3, 2), (12, 12), (40, 40)):
        for signs in ("a", "ab", "/", "a/", "ab?", "?", "/?", SIGNS):
            told.append(wide_table(rows, columns, signs))
        told.append(freed(wide_table(rows, columns, SIGNS), 3))
    return told


def no_texts():
    """Things that are no text, and so no row, new ones."""
    return [
        None, True, False, 0, 1, -1, FAR, 1j, ..., NotImplemented, b"names", bytearray(b"names"), ["names"], ("names",),
        {"names"}, {"names": 1}, frozenset(["names"]), ["show", "a"], ("drop", "a"), [], (), {}, set(), range(2),
        object(), Plain(), Plain, Alike(), [Alike()], len, str, lambda: "names", iter(["names"]),
    ]


class AtADesk(unittest.TestCase):

    def assert_said(self, desk, row, answer):
        told = desk.say(row)
        self.assertEqual(told, answer, row)
        self.assertIs(type(told), str)

    def assert_holds(self, desk, tables):
        """That the desk has these tables, a dict from names, and no others."""
        told = desk.names()
        self.assertEqual(told, sorted(tables))
        self.assertIs(type(told), list)
        self.assert_said(desk, "names", " ".join(sorted(tables)) or "none")
        for name, table in tables.items():
            self.assert_said(desk, f"show {name}", table_written_by_signs(table))


class Put(AtADesk):

    def test_plain_examples(self):
        desk = Desk()
        self.assert_holds(desk, {})
        self.assert_said(desk, "table great abcab/cabca/bcabc", "ok")
        self.assert_said(desk, "table little a?/?a", "ok")
        self.assert_holds(desk, {"great": GREAT, "little": ["a?", "?a"]})
        self.assert_said(desk, "pose turned great 1", "ok")
        self.assert_said(desk, "show turned", "bca/cab/abc/bca/cab")
        self.assert_said(desk, "moved over great 1 4", "ok")
        self.assert_said(desk, "show over", "acabc/cbcab/babca")
        self.assert_said(desk, "names", "great little over turned")
        self.assert_said(desk, "drop great", "ok")
        self.assert_said(desk, "names", "little over turned")
        self.assertEqual(desk.names(), ["little", "over", "turned"])

    def test_tables_of_many_sizes(self):
        tables = {}
        desk = Desk()
        for k, table in enumerate(tables_of_many_sizes()):
            name = "abcdefgh"[:1 + k % 8]
            self.assert_said(desk, f"table {name} {table_written_by_signs(table)}", "ok")
            tables[name] = table
            self.assert_said(desk, f"show {name}", table_written_by_signs(table))
        self.assert_holds(desk, tables)

    def test_a_text_has_blanks_of_its_own(self):
        desk = Desk()
        for text in ("// //", "a// b//", "// a b c ?", "//a ab", "//"):
            self.assert_said(desk, f"table a {text}", "ok")
            self.assert_said(desk, "show a", text)
        for text in ("a b", " a", "a ", "//  //", " //", "// ", "ab/cd ", "/ /"):
            assert_refused(self, "NoText", desk.say, f"table a {text}")
        self.assert_said(desk, "show a", "//")

    def test_what_is_put_into_an_old_name(self):
        desk = desk_of({"a": ["ab"], "b": ["cd"]})
        self.assert_said(desk, "table a xy/zw", "ok")
        self.assert_holds(desk, {"a": ["xy", "zw"], "b": ["cd"]})
        self.assert_said(desk, "pose b a 2", "ok")
        self.assert_holds(desk, {"a": ["xy", "zw"], "b": ["wz", "yx"]})
        self.assert_said(desk, "moved b a 0 1", "ok")
        self.assert_holds(desk, {"a": ["xy", "zw"], "b": ["yx", "wz"]})

    def test_what_is_put_into_its_own_name(self):
        desk = desk_of({"a": ["abc", "def"]})
        self.assert_said(desk, "pose a a 1", "ok")
        self.assert_holds(desk, {"a": ["da", "eb", "fc"]})
        self.assert_said(desk, "pose a a m0", "ok")
        self.assert_holds(desk, {"a": ["ad", "be", "cf"]})
        self.assert_said(desk, "moved a a 1 1", "ok")
        self.assert_holds(desk, {"a": ["eb", "fc", "da"]})
        self.assert_said(desk, "moved a a 0 0", "ok")
        self.assert_holds(desk, {"a": ["eb", "fc", "da"]})

    def test_what_is_made_of_a_table_stays_when_the_table_does_not(self):
        desk = desk_of({"a": ["abc", "def"]})
        for row in ("pose b a 0", "pose c a m2", "moved d a 0 0", "moved e a 1 1"):
            self.assert_said(desk, row, "ok")
        tables = {"b": ["abc", "def"], "c": ["def", "abc"], "d": ["abc", "def"], "e": ["efd", "bca"]}
        self.assert_said(desk, "table a x", "ok")
        self.assert_holds(desk, {**tables, "a": ["x"]})
        self.assert_said(desk, "drop a", "ok")
        self.assert_holds(desk, tables)
        self.assert_said(desk, "moved b b 1 0", "ok")
        self.assert_holds(desk, {**tables, "b": ["def", "abc"]})

    def test_each_pose(self):
        for table in tables_of_many_sizes():
            desk = desk_of({"a": table})
            for pose in POSES:
                self.assert_said(desk, f"pose b a {pose}", "ok")
                self.assert_said(desk, "show b", table_written_by_signs(posed_by_cells(table, pose)))
            self.assert_said(desk, "show a", table_written_by_signs(table))

    def test_moved_round(self):
        for table in ([row.replace("?", "!") for row in table] for table in tables_of_many_sizes()):
            desk = desk_of({"a": table})
            for a, b in ((0, 0), (1, 0), (0, 1), (7, 9), (10, 39), (99, 50)):
                self.assert_said(desk, f"moved b a {a} {b}", "ok")
                self.assert_said(desk, "show b", table_written_by_signs(moved_by_steps(table, a, b)))
            self.assert_said(desk, "show a", table_written_by_signs(table))

    def test_a_table_with_free_cells_is_not_moved_round(self):
        desk = desk_of({"a": ["a?"], "b": ["ab"]})
        for row in ("moved b a 0 0", "moved c a 1 1", "moved a a 0 1"):
            assert_refused(self, "NoTable", desk.say, row)
        self.assert_holds(desk, {"a": ["a?"], "b": ["ab"]})

    def test_dropped(self):
        desk = desk_of({"a": ["a"], "b": ["b"], "c": ["c"]})
        self.assert_said(desk, "drop b", "ok")
        self.assert_holds(desk, {"a": ["a"], "c": ["c"]})
        assert_refused(self, "NoName", desk.say, "drop b")
        self.assert_said(desk, "table b x", "ok")
        self.assert_holds(desk, {"a": ["a"], "b": ["x"], "c": ["c"]})
        for name in "abc":
            self.assert_said(desk, f"drop {name}", "ok")
        self.assert_holds(desk, {})


class Names(AtADesk):

    def test_one_to_eight_small_letters(self):
        desk = Desk()
        tables = {}
        for name in ("a", "z", "az", "abcdefgh", "zzzzzzzz", "tuvwxyz", "qqqqqqqq", "ijklmnop"):
            self.assert_said(desk, f"table {name} {name}", "ok")
            tables[name] = [name]
            self.assert_holds(desk, tables)
        for name in ("", "abcdefghi", "zzzzzzzzz", "A", "aB", "Ab", "a1", "1", "a_b", "a-b", "a.b", "a/b", "?", "!",
                     "~", "a?", "{", "`", "@", "[", "abcdefg1", "a\tb", "a\n", "\na", "x" * 3000):
            for row in ("table {} a", "pose {} a 0", "pose a {} 0", "moved {} a 0 0", "moved a {} 0 0", "drop {}",
                        "find {} a", "find a {}", "any a {}", "round {} a", "apart a {}", "near {} a", "least {}",
                        "twice {}", "same {}", "show {}"):
                assert_refused(self, "NoRow", desk.say, row.format(name))
        self.assert_holds(desk, tables)

    def test_words_of_the_desk(self):
        desk = Desk()
        tables = {word: [word] for word in WORDS + ["ok", "none", "m"]}
        for name in tables:
            self.assert_said(desk, f"table {name} {name}", "ok")
        self.assert_holds(desk, tables)
        self.assert_said(desk, "pose table pose 2", "ok")
        self.assert_said(desk, "show table", "esop")
        self.assert_said(desk, "find find find", "0.0")
        self.assert_said(desk, "same same", "0 m2")
        self.assert_said(desk, "drop drop", "ok")
        self.assert_said(desk, "moved show show 0 1", "ok")
        self.assert_said(desk, "show show", "hows")
        assert_refused(self, "NoName", desk.say, "drop drop")
        self.assert_said(desk, "drop names", "ok")
        self.assertNotIn("names", desk.names())

    def test_in_the_order_of_letters(self):
        desk = Desk()
        for name in ("b", "ba", "z", "a", "ab", "aab", "bb", "abc"):
            self.assert_said(desk, f"table {name} x", "ok")
        self.assert_said(desk, "names", "a aab ab abc b ba bb z")
        self.assertEqual(desk.names(), ["a", "aab", "ab", "abc", "b", "ba", "bb", "z"])

    def test_the_told_list_is_a_new_one(self):
        desk = Desk()
        desk.names().append("a")
        self.assert_holds(desk, {})
        desk = desk_of({"a": ["x"], "b": ["y"]})
        told = desk.names()
        self.assertIsNot(told, desk.names())
        told.append("c")
        told[0] = "d"
        self.assert_holds(desk, {"a": ["x"], "b": ["y"]})
        self.assertEqual(told, ["d", "b", "c"])


class Refused(AtADesk):

    def test_what_is_no_text(self):
        for desk in (Desk(), desk_of({"a": ["a"]})):
            names = desk.names()
            for thing in no_texts():
                assert_refused(self, "NoRow", desk.say, thing)
            self.assertEqual(desk.names(), names)

    def test_what_is_no_such_row(self):
        tables = {"a": ["ab", "cd"], "b": ["ab"]}
        desk = desk_of(tables)
        for row in ROWS:
            words = row.split(" ")
            wrong = [" " + row, row.upper(), row.replace(" ", "\t"), row + "\n", row + " a", row + "  ", row[1:],
                     words[0] + "s", "x" + row, row.replace(" ", "  ", 1), " ".join(words[:-1]), row.replace(" ", ""),
                     row.replace(" ", "/"), words[0] + " ", " ".join([words[0].title()] + words[1:]), row + " " + row,
                     " ".join(words[:2] + ["A"] + words[3:]), words[0] + " a b c", words[0] + " a b 1 2 3"]
            if words[0] == "table":
                # Of these a TEXT is left, if one that writes nothing.
                wrong = [one for one in wrong if not one.startswith("table a ")]
            if words[0] == "pose":
                # Any word stands where the pose stands.
                wrong = [one for one in wrong if one not in ("pose a b 1\n", "pose a b c")]
            if words[0] == "names":
                wrong = [one for one in wrong if one != "names"]
            for one in wrong:
                assert_refused(self, "NoRow", desk.say, one)
        self.assert_holds(desk, tables)

    def test_texts_of_any_kind_that_are_no_row(self):
        desk = desk_of({"a": ["a"]})
        for row in ("", " ", "  ", "a", "ab/cd", "-", "none", "ok", "table", "show", "\n", "\t", "find", "names names",
                    "names ", " names", "names\n", "tables a b", "get a", "put a b", "help", "0", "1.1", "show a;",
                    "show  a", "show a ", "show a b", "show\ta", "moved a a 1", "moved a a 1 1 1", "moved a a  1 1",
                    "pose a a", "pose a a ", "pose a a 0 ", "pose a a 0 0", "pose a 0", "x" * 3300, " " * 3300):
            assert_refused(self, "NoRow", desk.say, row)
        self.assert_holds(desk, {"a": ["a"]})

    def test_numbers_of_one_or_two_figures(self):
        desk = desk_of({"a": ["ab", "cd"]})
        for number in (0, 1, 9, 10, 11, 40, 90, 99):
            self.assert_said(desk, f"moved b a {number} 0", "ok")
            self.assert_said(desk, f"moved b a 0 {number}", "ok")
        for number in ("", "00", "01", "09", "100", "999", "000", "-1", "+1", "-0", "1.0", "1_0", "a", "1a", "0x",
                       "1\n", "\t1", "?", "/", "1" * 30):
            assert_refused(self, "NoRow", desk.say, f"moved b a {number} 0")
            assert_refused(self, "NoRow", desk.say, f"moved b a 0 {number}")
            assert_refused(self, "NoRow", desk.say, f"moved b zz {number} 0")

    def test_a_table_row_with_nothing_behind_the_blank(self):
        desk = desk_of({"a": ["ab"]})
        for name in ("a", "b", "table", "abcdefgh"):
            assert_refused(self, "NoText", desk.say, f"table {name} ")
            assert_refused(self, "NoRow", desk.say, f"table {name}")
        for row in ("table", "table ", "table  ", "table  a", "table  a b", "table A ", "table abcdefghi "):
            assert_refused(self, "NoRow", desk.say, row)
        self.assert_holds(desk, {"a": ["ab"]})

    def test_a_text_that_writes_none(self):
        tables = {"a": ["ab"]}
        desk = desk_of(tables)
        for text in ("", " ", "/", "///", "a/", "/a", "ab/c", "a b", "a//b/c", "//  //", "a\n", "\n", "a\tb", "//\n//",
                     "a/b\n", "none ok", "a/b c", "/" * 3001, "a " * 1600):
            self.assertIsNone(table_read_by_signs(text))
            assert_refused(self, "NoText", desk.say, f"table a {text}")
            assert_refused(self, "NoText", desk.say, f"table b {text}")
        self.assert_holds(desk, tables)

    def test_a_name_by_which_none_stands(self):
        tables = {"a": ["ab", "cd"]}
        desk = desk_of(tables)
        for row in ("pose a b 0", "pose b c 0", "pose c c 0", "moved a b 0 0", "moved c c 1 1", "drop b", "find a b",
                    "find b a", "find b c", "any a b", "any b a", "round a b", "round b a", "apart a b", "apart b a",
                    "near a b", "near b a", "least b", "twice b", "same b", "show b", "show names", "show aa"):
            assert_refused(self, "NoName", desk.say, row)
            assert_refused(self, "NoName", Desk().say, row)
        self.assert_holds(desk, tables)

    def test_what_is_no_pose(self):
        tables = {"a": ["ab", "cd"], "b": ["x?"]}
        desk = desk_of(tables)
        texts = [thing for thing in no_poses() if type(thing) is str]
        words = [text for text in texts if text != "" and text.split() == [text]]
        for word in words + ["x", "pose", "?", "/", "-", "a/b", "m5", "M1", "0m", "9" * 30, "0.0", "z" * 3000]:
            for name in ("a", "b", "c"):
                assert_refused(self, "NoPose", desk.say, f"pose {name} a {word}")
                assert_refused(self, "NoName", desk.say, f"pose {name} zz {word}")
        self.assert_holds(desk, tables)

    def test_no_row_then_no_name_then_what_the_stages_refuse(self):
        desk = desk_of({"free": ["??"], "some": ["a?"], "a": ["aa"]})
        for row, name in (("find zz A", "NoRow"), ("moved a zz 01 1", "NoRow"), ("moved b some 1 100", "NoRow"),
                          ("pose a zz ", "NoRow"), ("least zz a", "NoRow"), ("pose a zz 9", "NoName"),
                          ("find some zz", "NoName"), ("apart free zz", "NoName"), ("near zz free", "NoName"),
                          ("moved a zz 1 1", "NoName"), ("find some a", "NoTable"), ("any some a", "NoTable"),
                          ("round some a", "NoTable"), ("near some a", "NoTable"), ("apart some a", "NoTable"),
                          ("apart some free", "NoTable"), ("apart free free", "NoTable"), ("apart a free", "TooMany"),
                          ("least some", "NoTable"), ("twice free", "NoTable"), ("moved b some 1 1", "NoTable")):
            assert_refused(self, name, desk.say, row)
        self.assertEqual(desk.names(), ["a", "free", "some"])

    def test_refusals_have_texts(self):
        desk = desk_of({"a": ["aa"], "b": ["?"]})
        for row in (None, "show", "show c", "table a /", "pose a a 4", "least b", "apart a b"):
            self.assertNotEqual(refusal_text(desk.say, row), "")

    def test_what_is_refused_changes_nothing(self):
        tables = {"a": ["ab", "cd"], "b": ["a?"], "c": ["/"]}
        desk = desk_of(tables)
        for row in (None, "", "table a", "table a ", "table a ab/c", "table d /", "pose a b 4", "pose d a x",
                    "pose a d 0", "moved a b 1 1", "moved d b 0 0", "moved a d 1 1", "moved a a 1 01", "drop d",
                    "drop A", "drop a b", "find b a", "apart a d", "least b", "twice b", "names a", "show d",
                    ["drop", "a"], ("drop a",)):
            with self.assertRaises(ValueError):
                desk.say(row)
            self.assert_holds(desk, tables)


class Beside(AtADesk):

    def test_two_desks_beside_each_other(self):
        one, other = Desk(), Desk()
        self.assert_said(one, "table a ab", "ok")
        self.assert_holds(other, {})
        self.assert_said(other, "table a cd", "ok")
        self.assert_said(other, "table b ef", "ok")
        self.assert_holds(one, {"a": ["ab"]})
        self.assert_said(one, "pose a a 2", "ok")
        self.assert_said(one, "drop a", "ok")
        self.assert_holds(one, {})
        self.assert_holds(other, {"a": ["cd"], "b": ["ef"]})
        assert_refused(self, "NoName", one.say, "show a")

    def test_a_desk_begins_with_none(self):
        for _ in range(3):
            desk = Desk()
            self.assert_holds(desk, {})
            self.assert_said(desk, "table a ab", "ok")


if __name__ == "__main__":
    unittest.main()
