"""Points 4 and 21: what the desk answers of its tables."""

import unittest

from tablefind.anypose import places_posed
from tablefind.apart import most_apart
from tablefind.near import nearest_cells
from tablefind.places import all_places
from tablefind.poses import same_poses
from tablefind.rounds import least_moved, round_places
from tablefind.texts import read_cells, read_table, show_cells, show_table
from tablefind.twice import greatest_twice
from tests.by_cells import (
    all_moved, cells_written, most_apart_by_choices, places_by_cells, posed_by_cells, posed_places_by_cells,
    round_places_by_tiles, table_written_by_signs, twice_by_cells, unlike_by_cells,
)
from tests.samples import (
    POSES, SIGNS, assert_refused, desk_of, freed, littles_for, pairs_of_many_sizes, part_of, small_tables, wide_table,
)

GREAT = ["abcab", "cabca", "bcabc"]

LITTLES = small_tables(2, 2, "ab?") + [["ab?"], ["a?a"], ["abb", "?ab"]]

GREATS = small_tables(2, 3, "ab") + [["abab", "babb", "aaba"]]


def tables_of_forty():
    """Great tables of forty by forty: of few signs, with / among them, and of many."""
    return [wide_table(40, 40, "ab"), wide_table(40, 40, "a/b"), wide_table(40, 40, SIGNS), ["a" * 40] * 40]


def nearest_written(great, little):
    """What near answers, as the cells tell."""
    unlike = unlike_by_cells(great, little)
    if not unlike:
        return "none"
    least = min(unlike.values())
    return f"{least} {cells_written(sorted([cell for cell in unlike if unlike[cell] == least]))}"


class AtADesk(unittest.TestCase):

    def assert_said(self, desk, row, answer):
        told = desk.say(row)
        self.assertEqual(told, answer, row)
        self.assertIs(type(told), str)

    def assert_asked_of_pairs(self, word, answer, pairs):
        """That of each pair of tables the desk answers to the word what the function tells of them."""
        for great, little in pairs:
            desk = desk_of({"great": great, "little": little})
            self.assert_said(desk, f"{word} great little", answer(great, little))

    def assert_asked(self, word, answer, tables):
        """That of each of the tables the desk answers to the word what the function tells of it."""
        for table in tables:
            desk = desk_of({"a": table})
            self.assert_said(desk, f"{word} a", answer(table))


class OfTwo(AtADesk):

    def setUp(self):
        self.desk = desk_of({
            "great": GREAT, "little": ["a?", "?a"], "ab": ["ab"], "none": ["x"], "wide": ["abcabc"], "free": ["??"],
            "aaaaa": ["aaaaa"], "aa": ["aa"], "abb": ["abb"], "ba": ["ba"],
        })

    def test_find(self):
        self.assert_said(self.desk, "find great little", "0.0 0.3 1.1")
        self.assert_said(self.desk, "find great ab", "0.0 0.3 1.1 2.2")
        self.assert_said(self.desk, "find great none", "-")
        self.assert_said(self.desk, "find great wide", "-")
        self.assert_said(self.desk, "find great great", "0.0")
        self.assert_said(self.desk, "find aaaaa free", "0.0 0.1 0.2 0.3")
        self.assert_said(self.desk, "find ab great", "-")

    def test_any(self):
        self.assert_said(self.desk, "any great ab", "7")
        self.assert_said(self.desk, "any great none", "0")
        self.assert_said(self.desk, "any aaaaa aa", "4")
        self.assert_said(self.desk, "any great great", "1")
        self.assert_said(self.desk, "any great little", "3")

    def test_round(self):
        self.assert_said(self.desk, "round great ba", "0.4")
        self.assert_said(self.desk, "round great none", "-")
        self.assert_said(self.desk, "round great wide", "-")
        self.assert_said(self.desk, "round ab wide", "-")
        self.assert_said(self.desk, "round aaaaa aa", "0.0 0.1 0.2 0.3 0.4")
        self.assert_said(self.desk, "round aa aaaaa", "0.0 0.1")

    def test_apart(self):
        self.assert_said(self.desk, "apart aaaaa aa", "0.0 0.2")
        self.assert_said(self.desk, "apart great none", "-")
        self.assert_said(self.desk, "apart great little", "0.0 0.3")
        assert_refused(self, "TooMany", self.desk.say, "apart great free")
        fourteen = cells_written([(0, k) for k in range(14)])
        self.assert_said(desk_of({"a": ["a" * 14], "b": ["a"]}), "apart a b", fourteen)
        assert_refused(self, "TooMany", desk_of({"a": ["a" * 15], "b": ["a"]}).say, "apart a b")

    def test_near(self):
        self.assert_said(self.desk, "near great abb", "1 0.0 1.1 2.2")
        self.assert_said(self.desk, "near great ab", "0 0.0 0.3 1.1 2.2")
        self.assert_said(self.desk, "near great wide", "none")
        self.assert_said(self.desk, "near ab great", "none")
        self.assert_said(self.desk, "near ab none", "1 0.0 0.1")
        self.assert_said(self.desk, "near aaaaa free", "0 0.0 0.1 0.2 0.3")

    def test_small_tables(self):
        pairs = [(great, little) for great in GREATS for little in LITTLES[::3]]
        self.assert_asked_of_pairs("find", lambda one, other: cells_written(places_by_cells(one, other)), pairs)
        self.assert_asked_of_pairs("any", lambda one, other: str(len(posed_places_by_cells(one, other))), pairs[::3])
        self.assert_asked_of_pairs("round", lambda one, other: cells_written(round_places_by_tiles(one, other)), pairs)
        self.assert_asked_of_pairs("near", nearest_written, pairs)
        some = [(great, little) for great, little in pairs if set("".join(little)) != {"?"}][::5]
        self.assert_asked_of_pairs("apart", lambda one, other: cells_written(most_apart_by_choices(one, other)), some)

    def test_many_sizes(self):
        pairs = pairs_of_many_sizes()
        self.assert_asked_of_pairs("find", lambda one, other: cells_written(places_by_cells(one, other)), pairs)
        self.assert_asked_of_pairs("any", lambda one, other: str(len(posed_places_by_cells(one, other))), pairs[::4])
        self.assert_asked_of_pairs("round", lambda one, other: cells_written(round_places_by_tiles(one, other)), pairs)
        self.assert_asked_of_pairs("near", nearest_written, pairs[::2])

    def test_what_the_stages_tell(self):
        for great in [wide_table(13, 12, "a/")] + tables_of_forty():
            for little in littles_for(great)[::2]:
                desk = desk_of({"a": great, "b": little})
                self.assert_said(desk, "find a b", show_cells(all_places(great, little)))
                self.assert_said(desk, "any a b", str(len(places_posed(great, little))))
                self.assert_said(desk, "round a b", show_cells(round_places(great, little)))
                number, cells = nearest_cells(great, little)
                self.assert_said(desk, "near a b", f"{number} {show_cells(cells)}")
                if 0 < len(all_places(great, little)) < 15 and set("".join(little)) != {"?"}:
                    self.assert_said(desk, "apart a b", show_cells(most_apart(great, little)))

    def test_the_first_name_is_the_great_one(self):
        desk = desk_of({"a": ["ab", "ba"], "b": ["b"], "free": ["?b"]})
        self.assert_said(desk, "find a b", "0.1 1.0")
        self.assert_said(desk, "find b a", "-")
        self.assert_said(desk, "find a free", "0.0")
        for word in ("find", "any", "round", "apart", "near"):
            assert_refused(self, "NoTable", desk.say, f"{word} free a")
            assert_refused(self, "NoTable", desk.say, f"{word} free free")

    def test_a_little_table_of_twelve_rows_and_columns(self):
        great = wide_table(40, 40, SIGNS)
        desk = desk_of({"a": great, "b": part_of(great, 20, 25, 12, 12), "c": freed(part_of(great, 28, 28, 12, 12), 2)})
        self.assert_said(desk, "find a b", "20.25")
        self.assert_said(desk, "near a c", "0 28.28")
        self.assert_said(desk, "apart a b", "20.25")


class OfOne(AtADesk):

    def setUp(self):
        self.desk = desk_of({
            "great": GREAT, "little": ["a?", "?a"], "ba": ["ba", "ab"], "abcd": ["abcd"], "c": ["a/b"],
        })

    def test_least(self):
        self.assert_said(self.desk, "least great", "0 3")
        self.assert_said(self.desk, "least ba", "0 1")
        self.assert_said(desk_of({"a": ["cba"]}), "least a", "0 2")
        self.assert_said(desk_of({"a": ["b", "a"]}), "least a", "1 0")
        self.assert_said(desk_of({"a": ["b" * 40] * 39 + ["b" * 39 + "a"]}), "least a", "39 39")
        assert_refused(self, "NoTable", self.desk.say, "least little")

    def test_twice(self):
        self.assert_said(self.desk, "twice great", "2 0.0 0.3")
        self.assert_said(self.desk, "twice ba", "1 0.0 1.1")
        self.assert_said(self.desk, "twice abcd", "none")
        self.assert_said(self.desk, "twice c", "none")
        self.assert_said(desk_of({"a": ["a" * 40] * 40}), "twice a", "39 0.0 0.1")
        assert_refused(self, "NoTable", self.desk.say, "twice little")

    def test_same(self):
        self.assert_said(self.desk, "same little", "0 2 m1 m3")
        self.assert_said(self.desk, "same great", "0")
        self.assert_said(self.desk, "same ba", "0 2 m1 m3")
        self.assert_said(desk_of({"a": ["a"]}), "same a", "0 1 2 3 m0 m1 m2 m3")
        self.assert_said(desk_of({"a": ["aa"]}), "same a", "0 2 m0 m2")

    def test_show(self):
        self.assert_said(self.desk, "show great", "abcab/cabca/bcabc")
        self.assert_said(self.desk, "show little", "a?/?a")
        self.assert_said(self.desk, "show c", "a//b")
        self.assert_said(desk_of({"a": ["/a", "b?"]}), "show a", "//a b?")

    def test_small_tables(self):
        self.assert_asked("least", lambda table: "{1} {2}".format(*min(all_moved(table))), GREATS)
        for table in GREATS:
            told = twice_by_cells(table)
            answer = "none" if told is None else f"{told[0]} {cells_written(told[1:])}"
            self.assert_said(desk_of({"a": table}), "twice a", answer)
        for table in LITTLES + GREATS:
            same = [pose for pose in POSES if posed_by_cells(table, pose) == table]
            self.assert_said(desk_of({"a": table}), "same a", " ".join(same))
        self.assert_asked("show", table_written_by_signs, LITTLES + small_tables(2, 2, "a/?"))

    def test_what_the_stages_tell(self):
        for great in [wide_table(13, 12, "a/"), ["a" * 12], ["a/"] * 40] + tables_of_forty():
            desk = desk_of({"a": great})
            a, b, _ = least_moved(great)
            self.assert_said(desk, "least a", f"{a} {b}")
            s, one, other = greatest_twice(great)
            self.assert_said(desk, "twice a", f"{s} {show_cells([one])} {show_cells([other])}")
            self.assert_said(desk, "same a", " ".join(same_poses(great)))
            self.assert_said(desk, "show a", show_table(great))


class Throughout(AtADesk):

    def test_what_is_asked_changes_nothing_and_is_answered_the_same_again(self):
        tables = {"a": GREAT, "b": ["a?", "?a"], "c": ["/"], "d": ["ab"]}
        desk = desk_of(tables)
        rows = [f"{word} a {name}" for word in ("find", "any", "round", "apart", "near") for name in "abcd"]
        rows += ["least a", "twice a", "same a", "same b", "show a", "show b", "show c", "names"]
        first = [desk.say(row) for row in rows]
        self.assertEqual([desk.say(row) for row in rows[::-1]], first[::-1])
        self.assertEqual([desk_of(tables).say(row) for row in rows], first)
        self.assertEqual(desk.names(), ["a", "b", "c", "d"])

    def test_of_what_was_put_there_last(self):
        desk = desk_of({"a": ["aab"], "b": ["ab"]})
        self.assert_said(desk, "find a b", "0.1")
        desk.say("table a abb/aab")
        self.assert_said(desk, "find a b", "0.0 1.1")
        desk.say("pose b b m0")
        self.assert_said(desk, "find a b", "-")
        desk.say("moved a a 0 1")
        self.assert_said(desk, "find a b", "0.1 1.1")
        desk.say("moved a b 0 0")
        self.assert_said(desk, "find a b", "0.0")

    def test_answers_are_read_back(self):
        desk = desk_of({"a": GREAT, "b": ["a?", "?a"]})
        self.assertEqual(read_cells(desk.say("find a b")), all_places(GREAT, ["a?", "?a"]))
        self.assertEqual(read_table(desk.say("show a")), GREAT)
        desk.say(f"table c {desk.say('show b')}")
        self.assert_said(desk, "show c", "a?/?a")

    def test_as_many_places_where_both_are_in_one_pose(self):
        great = wide_table(13, 12, "ab")
        for little in littles_for(great)[::4]:
            desk = desk_of({"a": great, "b": little})
            found, many = len(read_cells(desk.say("find a b"))), desk.say("any a b")
            for pose in POSES:
                desk.say(f"pose c a {pose}")
                desk.say(f"pose d b {pose}")
                self.assertEqual(len(read_cells(desk.say("find c d"))), found)
                self.assert_said(desk, "any c d", many)
                self.assert_said(desk, "any c b", many)


if __name__ == "__main__":
    unittest.main()
