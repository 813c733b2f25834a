"""Folded tables: what they are, folding and unfolding, cells and gaps ([1], [2], [3], [6], [7], [8])."""

import unittest

from pivotfold.errors import BadColumns, BadOrder, Double, NoHead, NoPart
from pivotfold.folding import cell, emptied, filled, folded, gaps, is_wide, unfolded
from pivotfold.tables import is_key, is_table, kept, same_rows
from tests.helper import (
    BIG, OTHER_THINGS, VALUES, ask, nest, parts_and_heads, refusal, row_values, rows_of, some_cases, some_wides,
    without_doubles)

SALES = (
    ("town", "year", "item", "sold"),
    (
        ("Ulm", 2, "pen", 10),
        ("Aue", 1, "ink", None),
        ("Ulm", 1, "pen", 9),
        ("Ulm", 2, "ink", "few"),
        (None, 1, "pen", 0),
        ("Aue", 2, "pen", 7),
    ),
)
WIDE = (
    ("town",), ("year", "item"), ("sold",),
    ((2, "pen"), (1, "ink"), (1, "pen"), (2, "ink")),
    (
        (("Ulm",), ((10,), None, (9,), ("few",))),
        (("Aue",), ((7,), (None,), None, None)),
        ((None,), (None, None, (0,), None)),
    ),
)
GAPPED = (
    ("k",), ("n",), ("v", "w"),
    ((1,), (2,), (3,)),
    (
        (("a",), (None, None, None)),
        (("b",), ((1, 2), None, None)),
        (("c",), (None, None, (None, None))),
        ((None,), (None, None, None)),
    ),
)
NO_ROWS = (("a", "b", "c"), ())
ALL_GAPS = (("k",), ("n",), ("v",), ((1,), (2,)), (((1,), (None, None)), ((2,), (None, None))))
ROWS_ALONE = (("k",), ("n",), ("v",), (), (((1,), ()), ((2,), ())))
HEADS_ALONE = (("k",), ("n",), ("v",), ((1,), (2,)), ())
NOTHING = (("k",), ("n",), ("v",), (), ())


def wide_with(**parts):
    base = {"key": ("k",), "names": ("n",), "values": ("v",), "heads": ((1,), (2,)),
            "rows": ((("a",), ((5,), None)), (("b",), (None, (6,))))}
    base.update(parts)
    return tuple(base.values())


class IsWideTest(unittest.TestCase):
    def assert_all(self, things, wanted):
        for thing in things:
            with self.subTest(thing=thing):
                self.assertIs(ask(is_wide, thing), wanted)

    def test_folded_tables(self):
        self.assert_all((
            WIDE, GAPPED, ALL_GAPS, ROWS_ALONE, HEADS_ALONE, NOTHING, wide_with(),
            ((), (), ("v",), (), ()),
            ((), (), ("v",), ((),), ()),
            ((), (), ("v",), ((),), (((), (None,)),)),
            ((), (), ("v",), ((),), (((), ((None,),)),)),
            ((), (), ("v",), (), (((), ()),)),
            ((), ("n",), ("abcdefgh", "w"), ((None,), (0,), ("",), ("0",)), (((), ((1, 2), None, ("", None), (1, 2))),)),
            (("k",), (), ("v",), ((),), (((None,), ((1,),)), ((0,), ((1,),)), (("",), (None,)), (("0",), (None,)))),
        ), True)

    def test_many_and_bounds_that_are_not_looked_at(self):
        for many in (60, 61):
            heads = tuple((number,) for number in range(many))
            rows = tuple(((number,), ((number,),) * many) for number in range(many))
            self.assert_all(((("k",), ("n",), ("v",), heads, rows),), True)
        letters = tuple("abcdefghijklm")
        self.assert_all((
            (letters[:6], letters[6:12], ("z",), (), ()),
            ((), (), letters, ((),), (((), (tuple(range(13)),)),)),
            ((), (), ("v",), ((),), (((), ((10 ** 31,),)),)),
            ((), (), ("v",), ((),), (((), (("x" * 41,),)),)),
        ), True)

    def test_things_of_other_kinds(self):
        self.assert_all(OTHER_THINGS, False)
        for deep in (1, 2, 5, 11, 12):
            for kind in (tuple, list):
                self.assert_all((nest(1, deep, kind), nest(WIDE[2], deep - 1, kind)), False)
                for place in range(5):
                    self.assert_all((WIDE[:place] + (nest(True, deep, kind),) + WIDE[place + 1:],), False)

    def test_another_length(self):
        self.assert_all((WIDE[:4], WIDE + ((),), WIDE[:4] + ((), ()), list(WIDE)), False)

    def test_wrong_columns(self):
        for place in ("key", "names", "values"):
            for wrong in (["x"], "x", None, 1, True, ("",), ("abcdefghi",), ("X",), ("x1",), ("x ",), (1,), (None,),
                          (("x",),), (["x"],), ("x\n",), [], (True,)):
                self.assert_all((wide_with(**{place: wrong}),), False)

    def test_columns_that_are_there_twice(self):
        self.assert_all((
            wide_with(key=("n",)), wide_with(key=("v",)), wide_with(names=("k",)), wide_with(names=("v",)),
            wide_with(values=("k",)), wide_with(values=("n",)),
            (("k", "k"), (), ("v",), (), ()), ((), ("n", "n"), ("v",), (), ()), ((), (), ("v", "v"), (), ()),
        ), False)

    def test_no_column_of_values(self):
        self.assert_all((
            wide_with(values=()), (("k",), ("n",), (), (), ()), ((), (), (), ((),), (((), ((),)),)),
        ), False)

    def test_wrong_heads(self):
        for heads in ([(1,), (2,)], ((1,), (1,)), ((1,), [2]), ((1,), 2), ((1,), ()), ((1,), (2, 3)), ((1,), (True,)),
                      ((1,), ("a\n",)), ((1,), None), ((1,), ((2,),)), ((1,),), ((1,), (2,), (3,)), None, 2, "ab",
                      ((1,), "a"), ((1,), ([],))):
            self.assert_all((wide_with(heads=heads),), False)
        self.assert_all((((), (), ("v",), ((), ()), ()), ((), (), ("v",), ((1,),), ())), False)

    def test_wrong_rows(self):
        good = ((5,), None)
        for rows in ([(("a",), good)], None, 1, "", True, (("a",), good), ((("a",), good, ()),), ((("a",),),),
                     ([("a",), good],), (None,), ("ab",), ((("a",), good), 1)):
            self.assert_all((wide_with(rows=rows),), False)

    def test_wrong_parts(self):
        good = ((5,), None)
        for part in (["a"], "a", None, 1, (), ("a", "b"), (True,), (("a",),), ([],), ("\t",)):
            self.assert_all((wide_with(rows=((part, good),)),), False)
        self.assert_all((
            wide_with(rows=((("a",), good), (("a",), good))),
            wide_with(rows=((("a",), good), (("b",), good), (("a",), (None, None)))),
            ((), (), ("v",), ((),), (((), ((1,),)), ((), ((1,),)))),
        ), False)

    def test_wrong_cells(self):
        for cells in ([(5,), None], (), ((5,),), ((5,), None, None), None, 1, "ab", ((5,), 6), ((5,), "a"), ((5,), ()),
                      ((5,), (6, 7)), ((5,), [6]), ((5,), (True,)), ((5,), False), ((5,), ("a\n",)), ((5,), ((6,),)),
                      ((5,), ([],))):
            self.assert_all((wide_with(rows=((("a",), cells),)),), False)
            self.assert_all((wide_with(rows=((("b",), (None, None)), (("a",), cells))),), False)


class FoldedTest(unittest.TestCase):
    def test_as_seen(self):
        self.assertEqual(ask(folded, SALES, ["town"], ["year", "item"], ["sold"], "seen"), WIDE)

    def test_rising(self):
        self.assertEqual(
            ask(folded, SALES, ["town"], ["year", "item"], ["sold"], "rising"),
            (("town",), ("year", "item"), ("sold",),
             ((1, "ink"), (1, "pen"), (2, "ink"), (2, "pen")),
             ((("Ulm",), (None, (9,), ("few",), (10,))),
              (("Aue",), ((None,), None, None, (7,))),
              ((None,), (None, (0,), None, None)))))

    def test_heads_rise_as_values_do_and_parts_stay_as_seen(self):
        column = ("b", 10, "", None, "10", 9, "a", -BIG, BIG, "9")
        table = (("k", "n", "v"), tuple((value, value, 1) for value in column))
        told = ask(folded, table, ["k"], ["n"], ["v"], "rising")
        self.assertEqual(told[3], ((None,), (-BIG,), (9,), (10,), (BIG,), ("",), ("10",), ("9",), ("a",), ("b",)))
        self.assertEqual([row[0] for row in told[4]], [(value,) for value in column])
        self.assertEqual(ask(folded, table, ["k"], ["n"], ["v"], "seen")[3], tuple((value,) for value in column))

    def test_several_values_a_cell_in_their_order(self):
        table = (("k", "n", "v", "w"), (("a", 1, "x", "y"), ("b", 1, None, 4)))
        told = ask(folded, table, ["k"], ["n"], ["w", "v"], "seen")
        self.assertEqual(told, (("k",), ("n",), ("w", "v"), ((1,),), ((("a",), (("y", "x"),)), (("b",), ((4, None),)))))

    def test_columns_in_the_told_order(self):
        told = ask(folded, SALES, ["item", "town"], ["year"], ["sold"], "seen")
        self.assertEqual(told[:4], (("item", "town"), ("year",), ("sold",), ((2,), (1,))))
        self.assertEqual(told[4][1], (("ink", "Aue"), (None, (None,))))
        self.assertEqual([row[0] for row in told[4]],
                         [("pen", "Ulm"), ("ink", "Aue"), ("ink", "Ulm"), ("pen", None), ("pen", "Aue")])

    def test_no_columns_of_names(self):
        table = (("k", "v"), ((2, "x"), (1, None)))
        told = (("k",), (), ("v",), ((),), (((2,), (("x",),)), ((1,), ((None,),))))
        for order in ("seen", "rising"):
            self.assertEqual(ask(folded, table, ["k"], [], ["v"], order), told)

    def test_no_columns_of_key(self):
        table = (("n", "v"), ((2, "x"), (1, None)))
        self.assertEqual(ask(folded, table, [], ["n"], ["v"], "seen"),
                         ((), ("n",), ("v",), ((2,), (1,)), (((), (("x",), (None,))),)))
        self.assertEqual(ask(folded, table, [], ["n"], ["v"], "rising"),
                         ((), ("n",), ("v",), ((1,), (2,)), (((), ((None,), ("x",))),)))

    def test_values_alone(self):
        self.assertEqual(ask(folded, (("v",), ((3,),)), [], [], ["v"], "seen"),
                         ((), (), ("v",), ((),), (((), ((3,),)),)))

    def test_without_rows(self):
        for order in ("seen", "rising"):
            self.assertEqual(ask(folded, NO_ROWS, ["a"], ["b"], ["c"], order), (("a",), ("b",), ("c",), (), ()))
            self.assertEqual(ask(folded, NO_ROWS, [], [], ["c", "a", "b"], order), ((), (), ("c", "a", "b"), (), ()))

    def test_unlike_kinds_are_unlike_parts_and_heads(self):
        table = (("k", "n", "v"), ((0, 0, 1), ("0", "0", 2), (None, None, 3), ("", "", 4)))
        told = ask(folded, table, ["k"], ["n"], ["v"], "seen")
        self.assertEqual(told[3], ((0,), ("0",), (None,), ("",)))
        self.assertEqual(len(told[4]), 4)
        self.assertEqual(len(gaps(told)), 12)

    def test_tuples_may_be_handed_in(self):
        self.assertEqual(ask(folded, SALES, ("town",), ("year", "item"), ("sold",), "seen"), WIDE)
        self.assertEqual(ask(folded, SALES, ["town"], ("year", "item"), ["sold"], "seen"), WIDE)

    def test_lists_handed_in_are_not_kept(self):
        key, names, values = ["town"], ["year", "item"], ["sold"]
        told = folded(SALES, key, names, values, "seen")
        key.append("x")
        names.clear()
        values[0] = "y"
        self.assertEqual(told, WIDE)

    def test_sixty_rows_of_twelve_columns(self):
        columns = tuple("abcdefghijkl")
        table = (columns, tuple((number, -number) + (BIG,) * 10 for number in range(60)))
        told = ask(folded, table, columns[:1], columns[1:2], columns[2:], "rising")
        self.assertEqual((len(told[3]), len(told[4])), (60, 60))
        self.assertEqual(told[3][0], (-59,))
        self.assertEqual(told[4][59], ((59,), ((BIG,) * 10,) + (None,) * 59))
        self.assertEqual(len(gaps(told)), 3540)

    def test_many_tables(self):
        for steps, table, key, names, values in some_cases(1, 150, VALUES):
            table = without_doubles(table, key + names)
            order = steps.one_of(("seen", "rising"))
            with self.subTest(table=table, key=key, names=names, values=values, order=order):
                told = ask(folded, table, key, names, values, order)
                parts, heads = parts_and_heads(table, key, names, order)
                self.assertIs(is_wide(told), True)
                self.assertEqual(told[:3], (tuple(key), tuple(names), tuple(values)))
                self.assertEqual(list(told[3]), heads)
                self.assertEqual([part for part, _ in told[4]], parts)
                for part, cells in told[4]:
                    for head, each in zip(heads, cells):
                        rows = rows_of(table, key, names, part, head)
                        self.assertEqual(each, row_values(table, rows[0], values) if rows else None)


class FoldedRefusedTest(unittest.TestCase):
    def refused(self, error, *handed):
        told = refusal(folded, *handed)
        self.assertIs(type(told), error)
        return told

    def test_bad_columns(self):
        for key, names, values in (
                (["a"], ["b"], []), (["a", "b", "c"], [], []), ([], ["a", "b", "c"], []), ([], [], []),
                (["a"], [], ["c"]), ([], ["b"], ["c"]), ([], [], ["a", "b"]),
                (["a", "a"], ["b"], ["c"]), (["a"], ["b", "b"], ["c"]), (["a"], ["b"], ["c", "c"]),
                (["a"], ["b"], ["c", "a"]), (["a"], ["a", "b"], ["c"]), (["a"], ["a"], ["c"]), (["a"], ["c"], ["c"]),
                (["a"], ["b"], ["d"]), (["d"], ["b"], ["c"]), (["a"], ["b"], ["c", "d"]), (["a"], ["b", ""], ["c"]),
                (["a"], ["b"], ["C"])):
            for table in (NO_ROWS, (("a", "b", "c"), ((1, 2, 3),) * 2)):
                for kind in (list, tuple):
                    with self.subTest(key=key, names=names, values=values):
                        self.refused(BadColumns, table, kind(key), kind(names), kind(values), "seen")
                        self.refused(BadColumns, table, kind(key), kind(names), kind(values), "falling")

    def test_bad_order(self):
        for order in ("", "falling", "Seen", "seen ", "told", "risin", ("told", []), ("told", [(1,)])):
            for table in (NO_ROWS, (("a", "b", "c"), ((1, 2, 3), (1, 2, 4)))):
                with self.subTest(order=order, table=table):
                    self.refused(BadOrder, table, ["a"], ["b"], ["c"], order)

    def test_double(self):
        for rows, wanted in (
                (((1, 1), (1, 1)), (0, 1)),
                (((1, 1), (1, 2), (2, 1), (1, 2), (1, 1)), (1, 3)),
                (((1, 1), (1, 2), (1, 1), (1, 2)), (0, 2)),
                (((1, 1), (2, 2), (2, 2), (1, 1), (1, 1)), (1, 2)),
                (((1, 1), (1, 1), (1, 1)), (0, 1)),
                (((None, ""), ("", None), (None, "0"), (None, 0), ("", None)), (1, 4))):
            table = (("a", "b", "c"), tuple(row + (number,) for number, row in enumerate(rows)))
            with self.subTest(rows=rows):
                for order in ("seen", "rising"):
                    told = self.refused(Double, table, ["a"], ["b"], ["c"], order)
                    self.assertEqual(told.rows, wanted)
                    self.assertIs(type(told.rows), tuple)
                    self.assertEqual(self.refused(Double, table, [], ["b", "a"], ["c"], order).rows, wanted)
                    self.assertEqual(self.refused(Double, table, ["b", "a"], [], ["c"], order).rows, wanted)

    def test_rows_that_are_alike_throughout_are_doubles_too(self):
        table = (("a", "b", "c"), ((1, 2, 3), (1, 2, 3)))
        self.assertEqual(self.refused(Double, table, ["a"], ["b"], ["c"], "seen").rows, (0, 1))

    def test_all_rows_agree_in_no_columns(self):
        table = (("v",), ((1,), (2,), (3,)))
        self.assertEqual(self.refused(Double, table, [], [], ["v"], "seen").rows, (0, 1))

    def test_many_doubles(self):
        found = 0
        for _, table, key, names, values in some_cases(2, 100, VALUES):
            agreed = [row_values(table, number, key + names) for number in range(len(table[1]))]
            doubles = [number for number, row in enumerate(agreed) if row in agreed[:number]]
            self.assertIs(is_key(table, key + names), not doubles)
            if doubles:
                found += 1
                with self.subTest(table=table, key=key, names=names):
                    told = self.refused(Double, table, key, names, values, "seen")
                    self.assertEqual(told.rows, (agreed.index(agreed[doubles[0]]), doubles[0]))
        self.assertGreater(found, 20)


class UnfoldedTest(unittest.TestCase):
    def test_row_by_row_head_by_head(self):
        self.assertEqual(ask(unfolded, WIDE), (
            ("town", "year", "item", "sold"),
            (("Ulm", 2, "pen", 10), ("Ulm", 1, "pen", 9), ("Ulm", 2, "ink", "few"),
             ("Aue", 2, "pen", 7), ("Aue", 1, "ink", None), (None, 1, "pen", 0))))

    def test_gaps_are_left_out_and_cells_of_none_are_not(self):
        self.assertEqual(ask(unfolded, GAPPED), (("k", "n", "v", "w"), (("b", 1, 1, 2), ("c", 3, None, None))))

    def test_gaps_alone_or_nothing(self):
        for wide in (ALL_GAPS, ROWS_ALONE, HEADS_ALONE, NOTHING):
            with self.subTest(wide=wide):
                self.assertEqual(ask(unfolded, wide), (("k", "n", "v"), ()))

    def test_no_columns_of_key_or_names(self):
        self.assertEqual(ask(unfolded, ((), (), ("v",), ((),), (((), ((3,),)),))), (("v",), ((3,),)))
        self.assertEqual(ask(unfolded, ((), (), ("v",), ((),), (((), (None,)),))), (("v",), ()))

    def test_sixty_parts_and_heads(self):
        heads = tuple((number,) for number in range(60))
        rows = tuple(((number,), tuple((number * 60 + head,) for head in range(60))) for number in range(60))
        told = ask(unfolded, (("k",), ("n",), ("v",), heads, rows))
        self.assertEqual(told[1], tuple((number // 60, number % 60, number) for number in range(3600)))
        self.assertEqual(ask(folded, told, ["k"], ["n"], ["v"], "seen"), (("k",), ("n",), ("v",), heads, rows))

    def test_folded_and_unfolded_has_the_same_rows(self):
        for steps, table, key, names, values in some_cases(3, 150, VALUES):
            table = without_doubles(table, key + names)
            order = steps.one_of(("seen", "rising"))
            with self.subTest(table=table, key=key, names=names, values=values, order=order):
                told = ask(unfolded, folded(table, key, names, values, order))
                self.assertIs(is_table(told), True)
                self.assertIs(same_rows(told, kept(table, key + names + values)), True)
                parts, heads = parts_and_heads(table, key, names, order)
                many = len(key)
                places = [(parts.index(row[:many]), heads.index(row[many:many + len(names)])) for row in told[1]]
                self.assertEqual(places, sorted(places))

    def test_unfolded_and_folded_is_the_same_but_for_gaps_and_order(self):
        for _, wide in some_wides(4, 150, VALUES):
            with self.subTest(wide=wide):
                again = folded(ask(unfolded, wide), wide[0], wide[1], wide[2], "seen")
                left = emptied(wide)
                self.assertEqual([part for part, _ in again[4]], [part for part, _ in left[4]])
                self.assertEqual(sorted(map(repr, again[3])), sorted(map(repr, left[3])))
                for part, _ in left[4]:
                    for head in left[3]:
                        self.assertEqual(cell(again, part, head), cell(left, part, head))


class CellTest(unittest.TestCase):
    def test_cells_and_gaps(self):
        self.assertEqual(ask(cell, WIDE, ("Ulm",), (2, "pen")), (10,))
        self.assertEqual(ask(cell, WIDE, ("Ulm",), (2, "ink")), ("few",))
        self.assertEqual(ask(cell, WIDE, ("Aue",), (1, "ink")), (None,))
        self.assertEqual(ask(cell, WIDE, (None,), (1, "pen")), (0,))
        self.assertIsNone(ask(cell, WIDE, (None,), (2, "ink")))
        self.assertEqual(ask(cell, GAPPED, ("b",), (1,)), (1, 2))

    def test_every_cell(self):
        for _, wide in some_wides(5, 60, VALUES):
            for part, cells in wide[4]:
                for head, each in zip(wide[3], cells):
                    self.assertEqual(ask(cell, wide, part, head), each)

    def test_no_columns_of_key_or_names(self):
        self.assertEqual(ask(cell, ((), (), ("v",), ((),), (((), ((3,),)),)), (), ()), (3,))

    def test_no_part(self):
        for part in (("ulm",), ("",), (0,), (), ("Ulm", "Aue"), ("Ul",)):
            for head in ((2, "pen"), (3, "pen"), ()):
                with self.subTest(part=part, head=head):
                    self.assertIs(type(refusal(cell, WIDE, part, head)), NoPart)

    def test_no_head(self):
        for head in ((3, "pen"), ("2", "pen"), (2,), (), ("pen", 2), (2, "pen", 1), (None, None)):
            with self.subTest(head=head):
                self.assertIs(type(refusal(cell, WIDE, ("Ulm",), head)), NoHead)

    def test_where_there_are_none(self):
        self.assertIs(type(refusal(cell, NOTHING, (1,), (1,))), NoPart)
        self.assertIs(type(refusal(cell, HEADS_ALONE, (1,), (1,))), NoPart)
        self.assertIs(type(refusal(cell, ROWS_ALONE, (1,), (1,))), NoHead)
        self.assertIs(type(refusal(cell, ((), (), ("v",), (), ()), (), ())), NoPart)
        self.assertIs(type(refusal(cell, ((), (), ("v",), (), (((), ()),)), (), ())), NoHead)


class GapsTest(unittest.TestCase):
    def test_row_by_row_head_by_head(self):
        self.assertEqual(ask(gaps, WIDE), [
            (("Ulm",), (1, "ink")), (("Aue",), (1, "pen")), (("Aue",), (2, "ink")),
            ((None,), (2, "pen")), ((None,), (1, "ink")), ((None,), (2, "ink"))])

    def test_a_cell_of_none_is_no_gap(self):
        self.assertNotIn((("c",), (3,)), ask(gaps, GAPPED))
        self.assertEqual(len(gaps(GAPPED)), 10)

    def test_none_and_all(self):
        self.assertEqual(ask(gaps, ((), (), ("v",), ((),), (((), ((3,),)),))), [])
        self.assertEqual(ask(gaps, ((), (), ("v",), ((),), (((), (None,)),))), [((), ())])
        self.assertEqual(ask(gaps, ALL_GAPS), [((1,), (1,)), ((1,), (2,)), ((2,), (1,)), ((2,), (2,))])
        for wide in (ROWS_ALONE, HEADS_ALONE, NOTHING):
            self.assertEqual(ask(gaps, wide), [])

    def test_what_is_told_is_the_askers_own(self):
        told = gaps(WIDE)
        wanted = list(told)
        self.assertIs(type(told), list)
        told.append(1)
        told[0] = None
        self.assertEqual(gaps(WIDE), wanted)
        self.assertEqual([type(pair) for pair in wanted], [tuple] * 6)


class FilledTest(unittest.TestCase):
    def test_each_gap(self):
        self.assertEqual(ask(filled, WIDE, (0,)), WIDE[:4] + ((
            (("Ulm",), ((10,), (0,), (9,), ("few",))),
            (("Aue",), ((7,), (None,), (0,), (0,))),
            ((None,), ((0,), (0,), (0,), (0,))),
        ),))
        told = ask(filled, GAPPED, (None, "x"))
        self.assertEqual(told[4][0], (("a",), ((None, "x"),) * 3))
        self.assertEqual(told[4][1], (("b",), ((1, 2), (None, "x"), (None, "x"))))
        self.assertEqual(told[4][2], (("c",), ((None, "x"), (None, "x"), (None, None))))

    def test_a_cell_of_none_fills_too(self):
        self.assertEqual(gaps(ask(filled, WIDE, (None,))), [])

    def test_without_gaps_cells_or_rows(self):
        for wide in (ROWS_ALONE, HEADS_ALONE, NOTHING, filled(WIDE, (0,))):
            self.assertEqual(ask(filled, wide, (1,)), wide)

    def test_what_was_told_may_be_handed_in_again(self):
        told = filled(WIDE, ("",))
        self.assertIs(is_wide(told), True)
        self.assertEqual(filled(told, (5,)), told)
        self.assertEqual(len(unfolded(told)[1]), 12)


class EmptiedTest(unittest.TestCase):
    def test_without_rows_and_heads_of_gaps_alone(self):
        self.assertEqual(ask(emptied, GAPPED), (
            ("k",), ("n",), ("v", "w"), ((1,), (3,)),
            ((("b",), ((1, 2), None)), (("c",), (None, (None, None))))))

    def test_where_there_are_none_such(self):
        self.assertEqual(ask(emptied, WIDE), WIDE)

    def test_gaps_alone(self):
        for wide in (ALL_GAPS, HEADS_ALONE, NOTHING):
            with self.subTest(wide=wide):
                self.assertEqual(ask(emptied, wide), NOTHING)

    def test_a_row_without_cells_and_a_head_without_cells_have_gaps_alone(self):
        self.assertEqual(ask(emptied, ROWS_ALONE), NOTHING)
        self.assertEqual(ask(emptied, HEADS_ALONE), NOTHING)

    def test_no_columns_of_key_or_names(self):
        self.assertEqual(ask(emptied, ((), (), ("v",), ((),), (((), (None,)),))), ((), (), ("v",), (), ()))
        wide = ((), (), ("v",), ((),), (((), ((None,),)),))
        self.assertEqual(ask(emptied, wide), wide)

    def test_many_folded_tables(self):
        for _, wide in some_wides(6, 150, VALUES):
            with self.subTest(wide=wide):
                told = ask(emptied, wide)
                self.assertIs(is_wide(told), True)
                self.assertEqual(emptied(told), told)
                self.assertEqual(unfolded(told), unfolded(wide))
                for part, cells in told[4]:
                    self.assertTrue(any(each is not None for each in cells))
                for place in range(len(told[3])):
                    self.assertTrue(any(cells[place] is not None for _, cells in told[4]))


if __name__ == "__main__":
    unittest.main()
