"""Tables, and what is told of them ([2], [3], [4], [5])."""

import unittest

from pivotfold.errors import NoColumn
from pivotfold.tables import alike, column, is_key, is_table, kept, same_rows, sorted_by

BIG = 10 ** 30 - 1

TOWNS = (
    ("town", "year", "sold"),
    (
        ("b", 2, 10),
        ("a", 1, None),
        ("b", 1, 9),
        ("a", 2, "10"),
        ("b", 2, 10),
    ),
)
EMPTY = (("a", "b"), ())
MIXED = (("v",), ((7,), ("7",), (None,), ("",), (-BIG,), (BIG,), (None,), (7,)))


def nest(thing, deep, kind):
    for _ in range(deep):
        thing = kind([thing])
    return thing


class IsTableTest(unittest.TestCase):
    def assert_all(self, things, wanted):
        for thing in things:
            with self.subTest(thing=thing):
                self.assertIs(is_table(thing), wanted)

    def test_tables(self):
        self.assert_all((
            TOWNS, EMPTY, MIXED,
            (("a",), ()),
            (("a",), ((None,),)),
            (("abcdefgh", "z"), ((1, ""), (1, ""))),
            (("abcdefgh", "abcdefg"), ()),
            (tuple("abcdefghijkl"), (tuple(range(12)),) * 60),
        ), True)

    def test_bounds_are_not_looked_at(self):
        self.assert_all((
            (tuple("abcdefghijklm"), (tuple(range(13)),)),
            (("a",), ((1,),) * 61),
            (("a",), ((10 ** 31,), ("x" * 41,))),
        ), True)

    def test_things_of_other_kinds(self):
        self.assert_all((
            None, True, False, 0, 2, "", "ab", "a\tb\n", (), [], [[], []], ((), ()), (None, None),
            ("ab", ()), ("a", "b"), (("a",),), (("a",), (), ()), [("a",), ()], (1, 2), (True, ()),
        ), False)

    def test_wrong_columns(self):
        self.assert_all((
            ((), ()), ((), ((),)), (["a"], ()), ("a", ()), (None, ()), (1, ()),
            (("a", "a"), ()), (("a", "b", "a"), ((1, 2, 3),)),
            (("",), ()), (("abcdefghi",), ()), (("A",), ()), (("aB",), ()), (("a1",), ()), (("a b",), ()),
            (("a_",), ()), (("a\n",), ()), (("\ta",), ()), (("`",), ()), (("{",), ()), (("a", ""), ()),
            ((1,), ()), ((None,), ()), ((True,), ()), ((("a",),), ()), ((["a"],), ()), (("a", []), ()),
        ), False)

    def test_wrong_rows(self):
        self.assert_all((
            (("a",), []), (("a",), None), (("a",), 1), (("a",), ""), (("a",), "b"), (("a",), True),
            (("a",), (1,)), (("a",), ("b",)), (("a",), (None,)), (("a",), ([1],)), (("a",), ((),)),
            (("a",), ((1, 2),)), (("a", "b"), ((1,),)), (("a", "b"), ("xy",)), (("a", "b"), ([1, 2],)),
            (("a", "b"), ((1, 2), (1,))), (("a", "b"), ((1, 2), (1, 2, 3))),
        ), False)

    def test_wrong_values(self):
        self.assert_all((
            (("a",), ((True,),)), (("a",), ((False,),)), (("a",), (("\t",),)), (("a",), (("x\n",),)),
            (("a",), (((),),)), (("a",), (([],),)), (("a",), (((1,),),)), (("a",), ((1,), (True,))),
            (("a", "b"), ((1, [2]),)),
        ), False)

    def test_deep_things(self):
        for deep in (1, 2, 3, 11, 12):
            for kind in (tuple, list):
                with self.subTest(deep=deep, kind=kind):
                    self.assertIs(is_table(nest(1, deep, kind)), False)
                    self.assertIs(is_table((("a",), nest(True, deep, kind))), False)

    def test_what_is_asked_of_stays(self):
        thing = [["a"], [[1]]]
        is_table(thing)
        self.assertEqual(thing, [["a"], [[1]]])


class NoColumnTest(unittest.TestCase):
    def refused(self, name, deed, *handed):
        with self.assertRaises(NoColumn) as caught:
            deed(*handed)
        self.assertIs(type(caught.exception), NoColumn)
        self.assertEqual(caught.exception.name, name)

    def test_column(self):
        for name in ("x", "", "Town", "tow", "towns", " town", "townyear"):
            with self.subTest(name=name):
                self.refused(name, column, TOWNS, name)
                self.refused(name, column, EMPTY, name)

    def test_the_first_that_is_none(self):
        for deed in (kept, sorted_by, alike, is_key):
            for kind in (list, tuple):
                with self.subTest(deed=deed.__name__, kind=kind):
                    self.refused("x", deed, TOWNS, kind(["x"]))
                    self.refused("x", deed, TOWNS, kind(["town", "x", "sold", "y"]))
                    self.refused("y", deed, TOWNS, kind(["y", "x"]))
                    self.refused("", deed, TOWNS, kind(["sold", "year", "town", ""]))

    def test_tables_without_rows(self):
        for deed in (kept, sorted_by, alike, is_key):
            with self.subTest(deed=deed.__name__):
                self.refused("c", deed, EMPTY, ["a", "c"])

    def test_a_refusal_changes_nothing(self):
        for deed in (kept, sorted_by, alike, is_key):
            with self.subTest(deed=deed.__name__):
                names = ["town", "x"]
                before = deed(TOWNS, ["town"])
                self.refused("x", deed, TOWNS, names)
                self.assertEqual(names, ["town", "x"])
                self.assertEqual(deed(TOWNS, ["town"]), before)


class ColumnTest(unittest.TestCase):
    def test_values_row_by_row(self):
        self.assertEqual(column(TOWNS, "town"), ["b", "a", "b", "a", "b"])
        self.assertEqual(column(TOWNS, "year"), [2, 1, 1, 2, 2])
        self.assertEqual(column(TOWNS, "sold"), [10, None, 9, "10", 10])

    def test_without_rows(self):
        self.assertEqual(column(EMPTY, "b"), [])

    def test_what_is_told_is_the_askers_own(self):
        told = column(TOWNS, "year")
        told.append(3)
        told[0] = None
        self.assertEqual(column(TOWNS, "year"), [2, 1, 1, 2, 2])


class KeptTest(unittest.TestCase):
    def test_columns_in_the_told_order(self):
        self.assertEqual(
            kept(TOWNS, ["sold", "town"]),
            (("sold", "town"), ((10, "b"), (None, "a"), (9, "b"), ("10", "a"), (10, "b"))),
        )

    def test_one_column(self):
        self.assertEqual(kept(TOWNS, ["year"]), (("year",), ((2,), (1,), (1,), (2,), (2,))))

    def test_all_columns(self):
        self.assertEqual(kept(TOWNS, ["town", "year", "sold"]), TOWNS)

    def test_without_rows(self):
        self.assertEqual(kept(EMPTY, ["b", "a"]), (("b", "a"), ()))

    def test_a_table_is_told_of_lists_and_tuples(self):
        for names in (["year", "town"], ("year", "town")):
            with self.subTest(names=names):
                told = kept(TOWNS, names)
                self.assertIs(is_table(told), True)
                self.assertEqual(told[0], ("year", "town"))

    def test_what_is_handed_in_stays_and_is_not_kept(self):
        names = ["year", "town"]
        told = kept(TOWNS, names)
        self.assertEqual(names, ["year", "town"])
        names[0] = "sold"
        self.assertEqual(told[0], ("year", "town"))

    def test_what_was_told_may_be_handed_in_again(self):
        self.assertEqual(kept(kept(TOWNS, ["sold", "year"]), ["year"]), kept(TOWNS, ["year"]))


class SortedByTest(unittest.TestCase):
    def rows(self, table, names):
        told = sorted_by(table, names)
        self.assertIs(is_table(told), True)
        self.assertEqual(told[0], table[0])
        return told[1]

    def test_the_first_one_first(self):
        self.assertEqual(
            self.rows(TOWNS, ["town", "year"]),
            (("a", 1, None), ("a", 2, "10"), ("b", 1, 9), ("b", 2, 10), ("b", 2, 10)),
        )
        self.assertEqual(
            self.rows(TOWNS, ["year", "town"]),
            (("a", 1, None), ("b", 1, 9), ("a", 2, "10"), ("b", 2, 10), ("b", 2, 10)),
        )

    def test_like_ones_as_they_were(self):
        self.assertEqual(
            self.rows(TOWNS, ["year"]),
            (("a", 1, None), ("b", 1, 9), ("b", 2, 10), ("a", 2, "10"), ("b", 2, 10)),
        )
        self.assertEqual(
            self.rows(TOWNS, ["town"]),
            (("a", 1, None), ("a", 2, "10"), ("b", 2, 10), ("b", 1, 9), ("b", 2, 10)),
        )

    def test_none_then_numbers_then_texts(self):
        self.assertEqual(
            self.rows(TOWNS, ["sold"]),
            (("a", 1, None), ("b", 1, 9), ("b", 2, 10), ("b", 2, 10), ("a", 2, "10")),
        )
        self.assertEqual(
            self.rows(MIXED, ["v"]),
            ((None,), (None,), (-BIG,), (7,), (7,), (BIG,), ("",), ("7",)),
        )

    def test_no_columns(self):
        self.assertEqual(sorted_by(TOWNS, []), TOWNS)
        self.assertEqual(sorted_by(TOWNS, ()), TOWNS)

    def test_without_rows(self):
        self.assertEqual(sorted_by(EMPTY, ["b"]), EMPTY)
        self.assertEqual(sorted_by(EMPTY, []), EMPTY)

    def test_lists_and_tuples(self):
        self.assertEqual(sorted_by(TOWNS, ("sold", "town")), sorted_by(TOWNS, ["sold", "town"]))

    def test_what_is_handed_in_stays(self):
        names = ["year", "sold"]
        sorted_by(TOWNS, names)
        self.assertEqual(names, ["year", "sold"])

    def test_what_was_told_may_be_handed_in_again(self):
        told = sorted_by(TOWNS, ["town", "year"])
        self.assertEqual(sorted_by(told, ["town", "year"]), told)
        self.assertIs(same_rows(told, TOWNS), True)


class AlikeTest(unittest.TestCase):
    def test_groups_by_their_first_ones(self):
        self.assertEqual(alike(TOWNS, ["town"]), [[0, 2, 4], [1, 3]])
        self.assertEqual(alike(TOWNS, ["year"]), [[0, 3, 4], [1, 2]])
        self.assertEqual(alike(TOWNS, ["town", "year"]), [[0, 4], [1], [2], [3]])
        self.assertEqual(alike(TOWNS, ["sold"]), [[0, 4], [1], [2], [3]])
        self.assertEqual(alike(TOWNS, ["sold", "town", "year"]), [[0, 4], [1], [2], [3]])

    def test_values_are_alike_in_one_kind_alone(self):
        self.assertEqual(alike(MIXED, ["v"]), [[0, 7], [1], [2, 6], [3], [4], [5]])
        noughts = (("v",), ((0,), ("0",), (None,), ("",), (0,)))
        self.assertEqual(alike(noughts, ["v"]), [[0, 4], [1], [2], [3]])

    def test_columns_are_not_run_together(self):
        table = (("a", "b"), (("x", "yz"), ("xy", "z"), ("yz", "x"), ("x", "yz")))
        self.assertEqual(alike(table, ["a", "b"]), [[0, 3], [1], [2]])

    def test_of_no_columns_all_agree(self):
        self.assertEqual(alike(TOWNS, []), [[0, 1, 2, 3, 4]])
        self.assertEqual(alike(TOWNS, ()), [[0, 1, 2, 3, 4]])

    def test_without_rows(self):
        self.assertEqual(alike(EMPTY, ["a"]), [])
        self.assertEqual(alike(EMPTY, []), [])

    def test_lists_and_tuples(self):
        told = alike(TOWNS, ("town", "year"))
        self.assertEqual(told, alike(TOWNS, ["town", "year"]))
        self.assertIs(type(told), list)
        self.assertEqual([type(some) for some in told], [list] * 4)

    def test_what_is_told_is_the_askers_own(self):
        names = ["town"]
        told = alike(TOWNS, names)
        told[0].append(99)
        told.append([])
        self.assertEqual(names, ["town"])
        self.assertEqual(alike(TOWNS, names), [[0, 2, 4], [1, 3]])


class IsKeyTest(unittest.TestCase):
    KEYED = (("a", "b"), ((1, 1), (1, "1"), (2, 1), (None, 1)))

    def test_whether_no_two_rows_agree(self):
        self.assertIs(is_key(self.KEYED, ["a", "b"]), True)
        self.assertIs(is_key(self.KEYED, ["b", "a"]), True)
        self.assertIs(is_key(self.KEYED, ["a"]), False)
        self.assertIs(is_key(self.KEYED, ["b"]), False)

    def test_alike_rows(self):
        self.assertIs(is_key(TOWNS, ["town", "year", "sold"]), False)

    def test_no_columns(self):
        self.assertIs(is_key(TOWNS, []), False)
        self.assertIs(is_key((("a",), ((1,),)), []), True)
        self.assertIs(is_key((("a",), ((1,), (2,))), ()), False)
        self.assertIs(is_key(EMPTY, []), True)

    def test_without_rows(self):
        self.assertIs(is_key(EMPTY, ["a"]), True)

    def test_lists_and_tuples(self):
        names = ["a", "b"]
        self.assertIs(is_key(self.KEYED, tuple(names)), True)
        self.assertIs(is_key(self.KEYED, names), True)
        self.assertEqual(names, ["a", "b"])

    def test_things_of_other_kinds(self):
        for thing in (None, True, 0, "", "ab", (), [], (("a",), ((True,),)), [[["a"]]]):
            with self.subTest(thing=thing):
                self.assertIs(is_key(thing, ["a"]), False)
        for thing in (None, True, 0, "a", "\n"):
            with self.subTest(thing=thing):
                self.assertIs(is_key(self.KEYED, thing), False)


class SameRowsTest(unittest.TestCase):
    def test_in_any_order(self):
        turned = (TOWNS[0], tuple(reversed(TOWNS[1])))
        self.assertIs(same_rows(TOWNS, turned), True)
        self.assertIs(same_rows(turned, TOWNS), True)
        self.assertIs(same_rows(TOWNS, TOWNS), True)
        self.assertIs(same_rows(MIXED, (MIXED[0], MIXED[1][3:] + MIXED[1][:3])), True)

    def test_each_as_often(self):
        one = (("a",), ((1,), (1,), (2,)))
        other = (("a",), ((1,), (2,), (2,)))
        fewer = (("a",), ((1,), (2,)))
        self.assertIs(same_rows(one, other), False)
        self.assertIs(same_rows(one, fewer), False)
        self.assertIs(same_rows(fewer, one), False)
        self.assertIs(same_rows(one, (("a",), ((1,), (2,), (1,)))), True)

    def test_columns(self):
        self.assertIs(same_rows(EMPTY, (("b", "a"), ())), False)
        self.assertIs(same_rows(EMPTY, (("a", "c"), ())), False)
        self.assertIs(same_rows(EMPTY, (("a",), ())), False)
        self.assertIs(same_rows((("a", "b"), ((1, 1),)), (("b", "a"), ((1, 1),))), False)
        self.assertIs(same_rows((("a",), ((1,),)), (("b",), ((1,),))), False)

    def test_values_are_alike_in_one_kind_alone(self):
        self.assertIs(same_rows((("a",), ((1,),)), (("a",), (("1",),))), False)
        self.assertIs(same_rows((("a",), ((None,),)), (("a",), ((0,),))), False)
        self.assertIs(same_rows((("a",), ((None,),)), (("a",), (("",),))), False)
        self.assertIs(same_rows((("a",), ((BIG,),)), (("a",), ((BIG - 1,),))), False)

    def test_without_rows(self):
        self.assertIs(same_rows(EMPTY, EMPTY), True)
        self.assertIs(same_rows(EMPTY, (("a", "b"), ((1, 2),))), False)

    def test_values_stay_in_their_rows(self):
        one = (("a", "b"), ((1, 2), (3, 4)))
        other = (("a", "b"), ((1, 4), (3, 2)))
        self.assertIs(same_rows(one, other), False)


if __name__ == "__main__":
    unittest.main()
