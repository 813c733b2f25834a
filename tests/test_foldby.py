"""Doubles put together, the rows each cell came from, and what shows a folding ([1], [2], [3], [9], [10])."""

import unittest

from pivotfold.errors import BadColumns, BadOrder, BadWay, Double, NoNumber
from pivotfold.foldby import folded_by, shows_folded, sources
from pivotfold.folding import folded, is_wide, unfolded
from pivotfold.ways import put_together
from tests.helper import (
    BIG, NUMBERS, OTHER_THINGS, VALUES, WAYS, ask, nest, parts_and_heads, refusal, row_values, rows_of, some_cases,
    without_doubles)

SALES = (
    ("town", "year", "sold", "note"),
    (
        ("Ulm", 2, 10, "b"),
        ("Aue", 1, None, "x"),
        ("Ulm", 1, 9, None),
        ("Ulm", 2, 5, "a"),
        ("Aue", 1, None, 7),
        ("Ulm", 2, None, "b"),
        (None, "1", 3, ""),
    ),
)
SPLIT = (["town"], ["year"], ["sold", "note"])
SOURCES = (((0, 3, 5), (2,), ()), ((), (1, 4), ()), ((), (), (6,)))
NO_ROWS = (("a", "b", "c"), ())
FEW = (("a", "b", "c"), ((1, 2, 3), (1, 2, "x")))

# What each way makes of "sold" and of "note" in the cells of (Ulm, 2), (Ulm, 1), (Aue, 1), (None, "1").
BY_WAY = {
    "first": ((10, 9, None, 3), ("b", None, "x", "")),
    "last": ((None, 9, None, 3), ("b", None, 7, "")),
    "sum": ((15, 9, 0, 3), None),
    "count": ((2, 1, 0, 1), (3, 0, 2, 1)),
    "least": ((5, 9, None, 3), ("a", None, 7, "")),
    "greatest": ((10, 9, None, 3), ("b", None, "x", "")),
    "unlike": ((2, 1, 0, 1), (2, 0, 2, 1)),
}


def sales_cells(first, second):
    cells = list(zip(BY_WAY[first][0], BY_WAY[second][1]))
    return ((("Ulm",), (cells[0], cells[1], None)),
            (("Aue",), (None, cells[2], None)),
            ((None,), (None, None, cells[3])))


class FoldedByTest(unittest.TestCase):
    def test_every_pair_of_ways(self):
        for first in WAYS:
            for second in WAYS:
                if second != "sum":
                    with self.subTest(first=first, second=second):
                        told = ask(folded_by, SALES, *SPLIT, [first, second], "seen")
                        self.assertEqual(told, (("town",), ("year",), ("sold", "note"), ((2,), (1,), ("1",)),
                                                sales_cells(first, second)))

    def test_rising(self):
        self.assertEqual(
            ask(folded_by, SALES, *SPLIT, ["sum", "last"], "rising"),
            (("town",), ("year",), ("sold", "note"), ((1,), (2,), ("1",)),
             ((("Ulm",), ((9, None), (15, "b"), None)),
              (("Aue",), ((0, 7), None, None)),
              ((None,), (None, None, (3, ""))))))

    def test_ways_go_with_values_as_told(self):
        told = ask(folded_by, SALES, ["town"], ["year"], ["note", "sold"], ["count", "sum"], "seen")
        self.assertEqual(told[2], ("note", "sold"))
        self.assertEqual(told[4][0], (("Ulm",), ((3, 15), (0, 9), None)))

    def test_a_row_alone_is_put_together_too(self):
        table = (("k", "v", "w"), ((1, None, None), (2, "x", 5)))
        told = ask(folded_by, table, ["k"], [], ["v", "w"], ["unlike", "sum"], "seen")
        self.assertEqual(told, (("k",), (), ("v", "w"), ((),), (((1,), ((0, 0),)), ((2,), ((1, 5),)))))

    def test_no_columns_of_key_or_of_names(self):
        table = (("v",), ((1,), (2,), (BIG,)))
        for order in ("seen", "rising"):
            self.assertEqual(ask(folded_by, table, [], [], ["v"], ["sum"], order),
                             ((), (), ("v",), ((),), (((), ((BIG + 3,),)),)))
        self.assertEqual(ask(folded_by, (("n", "v"), ((2, 5), (1, 6), (2, 7))), [], ["n"], ["v"], ["sum"], "rising"),
                         ((), ("n",), ("v",), ((1,), (2,)), (((), ((6,), (12,))),)))

    def test_without_rows(self):
        for way in WAYS:
            for order in ("seen", "rising"):
                self.assertEqual(ask(folded_by, NO_ROWS, ["a"], ["b"], ["c"], [way], order),
                                 (("a",), ("b",), ("c",), (), ()))

    def test_tuples_may_be_handed_in_and_lists_are_not_kept(self):
        key, names, values, ways = ["town"], ["year"], ["sold", "note"], ["sum", "count"]
        told = folded_by(SALES, key, names, values, ways, "seen")
        self.assertEqual(ask(folded_by, SALES, tuple(key), tuple(names), tuple(values), tuple(ways), "seen"), told)
        for some in (key, names, values, ways):
            some.clear()
        self.assertEqual(told, (("town",), ("year",), ("sold", "note"), ((2,), (1,), ("1",)),
                                sales_cells("sum", "count")))

    def test_without_doubles_it_is_as_folded(self):
        for steps, table, key, names, values in some_cases(11, 80, VALUES):
            table = without_doubles(table, key + names)
            order = steps.one_of(("seen", "rising"))
            ways = [steps.one_of(("first", "last", "least", "greatest")) for _ in values]
            self.assertEqual(ask(folded_by, table, key, names, values, ways, order),
                             folded(table, key, names, values, order))

    def test_many_tables(self):
        for pool, start in ((VALUES, 12), (NUMBERS + (None,), 13)):
            ways_here = [way for way in WAYS if way != "sum" or pool is not VALUES]
            for steps, table, key, names, values in some_cases(start, 100, pool):
                order = steps.one_of(("seen", "rising"))
                ways = [steps.one_of(ways_here) for _ in values]
                with self.subTest(table=table, key=key, names=names, values=values, ways=ways, order=order):
                    told = ask(folded_by, table, key, names, values, ways, order)
                    parts, heads = parts_and_heads(table, key, names, order)
                    self.assertIs(is_wide(told), True)
                    self.assertEqual(told[:4], (tuple(key), tuple(names), tuple(values), tuple(heads)))
                    self.assertEqual([part for part, _ in told[4]], parts)
                    for part, cells in told[4]:
                        for head, cell in zip(heads, cells):
                            rows = rows_of(table, key, names, part, head)
                            self.assertEqual(cell, self.put_together(table, rows, values, ways))

    def put_together(self, table, rows, values, ways):
        if not rows:
            return None
        return tuple(put_together([row_values(table, row, [name])[0] for row in rows], way)
                     for name, way in zip(values, ways))

    def test_what_was_told_may_be_handed_in_again(self):
        table = (("k", "v"), (("a", BIG), ("a", BIG), ("b", 1)))
        told = unfolded(folded_by(table, ["k"], [], ["v"], ["sum"], "seen"))
        self.assertEqual(told, (("k", "v"), (("a", 2 * BIG), ("b", 1))))
        self.assertEqual(ask(folded_by, told, [], [], ["k", "v"], ["count", "sum"], "seen")[4],
                         (((), ((2, 2 * BIG + 1),)),))


class FoldedByRefusedTest(unittest.TestCase):
    def refused(self, error, *handed):
        self.assertIs(type(refusal(folded_by, *handed)), error)

    def test_bad_columns(self):
        for key, names, values in (
                (["a"], ["b"], []), (["a"], [], ["c"]), ([], ["b"], ["c"]), (["a", "a"], ["b"], ["c"]),
                (["a"], ["b"], ["c", "c"]), (["a"], ["a"], ["c"]), (["a"], ["b"], ["d"]), (["a", "d"], ["b"], ["c"]),
                ([], [], [])):
            for table in (NO_ROWS, FEW):
                for ways, order in ((["sum"], "seen"), (["no"], "seen"), (["first"], "no"), ([], "no")):
                    with self.subTest(key=key, names=names, values=values, ways=ways, order=order):
                        self.refused(BadColumns, table, key, names, values, ways, order)

    def test_bad_order(self):
        for order in ("falling", "", "SEEN", ("told", [])):
            for table in (NO_ROWS, FEW):
                for ways in (["sum"], ["no"], [], ["first", "first"]):
                    with self.subTest(order=order, ways=ways):
                        self.refused(BadOrder, table, ["a"], ["b"], ["c"], ways, order)

    def test_bad_way(self):
        for ways in ([], ["sum", "sum"], ["first", "last"], ["no"], [""], ["Sum"], ["all"], ["rows"], ["sum "]):
            for table in (NO_ROWS, FEW):
                with self.subTest(ways=ways):
                    self.refused(BadWay, table, ["a"], ["b"], ["c"], ways, "seen")
        for ways in (["sum", "no"], ["no", "sum"], ["sum"], ["sum", "sum", "sum"]):
            for table in (NO_ROWS, FEW):
                self.refused(BadWay, table, ["a"], [], ["c", "b"], ways, "rising")

    def test_no_number(self):
        self.refused(NoNumber, FEW, ["a"], ["b"], ["c"], ["sum"], "seen")
        self.refused(NoNumber, (("a", "b", "c"), ((1, 2, ""),)), ["a"], ["b"], ["c"], ["sum"], "rising")
        self.refused(NoNumber, SALES, *SPLIT, ["count", "sum"], "seen")

    def test_a_double_is_not_refused(self):
        self.assertIs(type(refusal(folded, FEW, ["a"], ["b"], ["c"], "seen")), Double)
        self.assertEqual(ask(folded_by, FEW, ["a"], ["b"], ["c"], ["last"], "seen")[4], (((1,), (("x",),)),))


class SourcesTest(unittest.TestCase):
    def test_as_seen_and_rising(self):
        self.assertEqual(ask(sources, SALES, ["town"], ["year"], "seen"), SOURCES)
        self.assertEqual(ask(sources, SALES, ["town"], ["year"], "rising"),
                         (((2,), (0, 3, 5), ()), ((1, 4), (), ()), ((), (), (6,))))

    def test_columns_may_be_left_out(self):
        self.assertEqual(ask(sources, SALES, ["town"], [], "seen"), (((0, 2, 3, 5),), ((1, 4),), ((6,),)))
        self.assertEqual(ask(sources, SALES, [], ["town"], "seen"), (((0, 2, 3, 5), (1, 4), (6,)),))
        self.assertEqual(ask(sources, SALES, [], ["town"], "rising"), (((6,), (1, 4), (0, 2, 3, 5)),))
        self.assertEqual(ask(sources, SALES, [], [], "rising"), (((0, 1, 2, 3, 4, 5, 6),),))
        self.assertEqual(ask(sources, FEW, ["c", "a"], ["b"], "seen"), (((0,),), ((1,),)))

    def test_all_columns_may_be_there(self):
        self.assertEqual(ask(sources, FEW, ["a", "b"], ["c"], "seen"), (((0,), (1,)),))
        self.assertEqual(ask(sources, FEW, ["a", "b", "c"], [], "seen"), (((0,),), ((1,),)))

    def test_without_rows(self):
        for key, names in ((["a"], ["b"]), ([], []), (["a"], []), ([], ["c"])):
            self.assertEqual(ask(sources, NO_ROWS, key, names, "seen"), ())

    def test_tuples_may_be_handed_in(self):
        self.assertEqual(ask(sources, SALES, ("town",), ("year",), "seen"), SOURCES)

    def test_all_is_told_as_tuples(self):
        told = sources(SALES, ["town"], ["year"], "seen")
        self.assertIs(type(told), tuple)
        for row in told:
            self.assertIs(type(row), tuple)
            self.assertEqual([type(numbers) for numbers in row], [tuple] * 3)

    def test_bad_columns(self):
        for key, names in ((["x"], []), ([], ["x"]), (["a"], ["a"]), (["a", "a"], []), ([], ["b", "b"]), ([""], ["a"]),
                           (["a", "b"], ["c", "b"]), (["a", "b", "c"], ["d"]), (["A"], ["b"])):
            for table in (NO_ROWS, FEW):
                for order in ("seen", "falling"):
                    for kind in (list, tuple):
                        with self.subTest(key=key, names=names, order=order):
                            self.assertIs(type(refusal(sources, table, kind(key), kind(names), order)), BadColumns)

    def test_bad_order(self):
        for order in ("falling", "", "told", ("told", [])):
            for table in (NO_ROWS, FEW):
                self.assertIs(type(refusal(sources, table, ["a"], ["b"], order)), BadOrder)

    def test_each_row_in_one_cell_and_each_cell_of_its_rows(self):
        for steps, table, key, names, values in some_cases(14, 120, VALUES):
            order = steps.one_of(("seen", "rising"))
            with self.subTest(table=table, key=key, names=names, order=order):
                told = ask(sources, table, key, names, order)
                parts, heads = parts_and_heads(table, key, names, order)
                self.assertEqual(told, tuple(tuple(rows_of(table, key, names, part, head) for head in heads)
                                             for part in parts))
                self.assertEqual(sorted(number for row in told for numbers in row for number in numbers),
                                 list(range(len(table[1]))))
                wide = folded_by(table, key, names, values, ["count"] * len(values), order)
                self.assertEqual([[numbers == () for numbers in row] for row in told],
                                 [[cell is None for cell in cells] for _, cells in wide[4]])


class ShowsFoldedTest(unittest.TestCase):
    WIDE = folded_by(SALES, *SPLIT, ["sum", "last"], "seen")

    def shows(self, thing, table=SALES, split=SPLIT, ways=("sum", "last")):
        return ask(shows_folded, table, *split, list(ways), thing)

    def wide_with(self, place, thing):
        return self.WIDE[:place] + (thing,) + self.WIDE[place + 1:]

    def test_what_folded_by_and_sources_tell(self):
        self.assertIs(self.shows((self.WIDE, SOURCES)), True)
        rising = (folded_by(SALES, *SPLIT, ["sum", "last"], "rising"), sources(SALES, ["town"], ["year"], "rising"))
        self.assertIs(self.shows(rising), True)
        self.assertIs(ask(shows_folded, SALES, ("town",), ("year",), ("sold", "note"), ("sum", "last"), rising), True)

    def test_parts_and_heads_in_any_order(self):
        turned_rows = self.wide_with(4, tuple(reversed(self.WIDE[4])))
        self.assertIs(self.shows((turned_rows, tuple(reversed(SOURCES)))), True)
        self.assertIs(self.shows((turned_rows, SOURCES)), False)
        self.assertIs(self.shows((self.WIDE, tuple(reversed(SOURCES)))), False)
        rows = tuple((part, tuple(reversed(cells))) for part, cells in self.WIDE[4])
        turned_heads = self.WIDE[:3] + (tuple(reversed(self.WIDE[3])), rows)
        turned_sources = tuple(tuple(reversed(row)) for row in SOURCES)
        self.assertIs(self.shows((turned_heads, turned_sources)), True)
        self.assertIs(self.shows((turned_heads, SOURCES)), False)
        self.assertIs(self.shows((self.WIDE, turned_sources)), False)
        self.assertIs(self.shows((self.wide_with(3, turned_heads[3]), SOURCES)), False)

    def test_things_of_other_kinds(self):
        for thing in OTHER_THINGS:
            for asked in (thing, (thing, SOURCES), (self.WIDE, thing), (thing, thing), (self.WIDE, SOURCES, thing),
                          (self.WIDE, SOURCES[:2] + (thing,)), (self.WIDE, SOURCES[:2] + (((), (), thing),)),
                          (self.WIDE, SOURCES[:2] + (((), (), (thing,)),))):
                with self.subTest(asked=asked):
                    self.assertIs(self.shows(asked), False)
        for deep in (1, 2, 3, 11, 12):
            for kind in (tuple, list):
                self.assertIs(self.shows(nest(0, deep, kind)), False)
                self.assertIs(self.shows((self.WIDE, nest(0, deep - 1, kind))), False)
                self.assertIs(self.shows((nest(True, deep - 1, kind), SOURCES)), False)

    def test_another_kind_of_pair(self):
        for thing in ([self.WIDE, SOURCES], (SOURCES, self.WIDE), (self.WIDE,), (self.WIDE, SOURCES, ()),
                      (list(self.WIDE), SOURCES), self.WIDE, SOURCES):
            self.assertIs(self.shows(thing), False)

    def test_other_columns(self):
        for wide in (self.wide_with(0, ("year",)), self.wide_with(0, ("x",)), self.wide_with(1, ("x",)),
                     self.wide_with(2, ("note", "sold")), self.wide_with(2, ("sold", "x")),
                     ("year",) + self.WIDE[1:], (("year",), ("town",)) + self.WIDE[2:]):
            with self.subTest(wide=wide):
                self.assertIs(self.shows((wide, SOURCES)), False)

    def test_columns_in_another_order(self):
        table = (("a", "b", "v"), ((1, 1, 5),))
        told = (("a", "b"), (), ("v",), ((),), (((1, 1), ((5,),)),))
        split = (["a", "b"], [], ["v"])
        self.assertIs(self.shows((told, (((0,),),)), table, split, ["sum"]), True)
        self.assertIs(self.shows(((("b", "a"),) + told[1:], (((0,),),)), table, split, ["sum"]), False)

    def test_wrong_cells(self):
        for part in range(3):
            for head in range(3):
                for cell in (None, (0, 0), (15, "b", 1), (15,), [15, "b"], (True, "b"), 15, (15, "a"), (16, "b")):
                    rows = [[list(row[1]), row[0]] for row in self.WIDE[4]]
                    if rows[part][0][head] != cell:
                        rows[part][0][head] = cell
                        wide = self.wide_with(4, tuple((row[1], tuple(row[0])) for row in rows))
                        with self.subTest(part=part, head=head, cell=cell):
                            self.assertIs(self.shows((wide, SOURCES)), False)

    def test_wrong_sources(self):
        for wrong in (
                (((0, 3), (2,), ()), ((), (1, 4), ()), ((), (), (6,))),
                (((0, 3, 5), (2,), ()), ((), (1, 4), ()), ((), (), ())),
                (((0, 5, 3), (2,), ()), ((), (1, 4), ()), ((), (), (6,))),
                (((0, 3, 3, 5), (2,), ()), ((), (1, 4), ()), ((), (), (6,))),
                (((0, 3, 5), (2,), ()), ((), (4, 1), ()), ((), (), (6,))),
                (((0, 3, 5), (2,), (6,)), ((), (1, 4), ()), ((), (), (6,))),
                (((0, 3, 5), (2,), (6,)), ((), (1, 4), ()), ((), (), ())),
                (((0, 3, 5), (2, 7), ()), ((), (1, 4), ()), ((), (), (6,))),
                (((-1, 0, 3, 5), (2,), ()), ((), (1, 4), ()), ((), (), (6,))),
                (((0, 3, 5), (1,), ()), ((), (2, 4), ()), ((), (), (6,))),
                (((0, 3, 5), (2,), None), ((), (1, 4), ()), ((), (), (6,))),
                (((0, 3, 5), 2, ()), ((), (1, 4), ()), ((), (), (6,))),
                (((0, 3, 5), (2,)), ((), (1, 4)), ((), ())),
                (((0, 3, 5), (2,), ()), ((), (1, 4), ())),
                SOURCES + (((), (), ()),),
                tuple(row + ((),) for row in SOURCES),
                (([0, 3, 5], (2,), ()), ((), (1, 4), ()), ((), (), (6,))),
                ([(0, 3, 5), (2,), ()], ((), (1, 4), ()), ((), (), (6,))),
                list(SOURCES),
                (((False, 3, 5), (2,), ()), ((), (1, 4), ()), ((), (), (6,))),
                (((0, 3, 5), (2,), ()), ((), (True, 4), ()), ((), (), (6,))),
                (((0, 3, 5), ("2",), ()), ((), (1, 4), ()), ((), (), (6,))),
                (((0, 3, 5), (None,), ()), ((), (1, 4), ()), ((), (), (6,))),
                (((0, 3, 5), (), ()), ((), (1, 4), ()), ((), (), (6,)))):
            with self.subTest(wrong=wrong):
                self.assertIs(self.shows((self.WIDE, wrong)), False)

    def test_parts_and_heads_that_are_too_many(self):
        row = (self.wide_with(4, self.WIDE[4] + ((("Bonn",), (None, None, None)),)), SOURCES + (((), (), ()),))
        self.assertIs(self.shows(row), False)
        rows = tuple((part, cells + (None,)) for part, cells in self.WIDE[4])
        head = (self.WIDE[:3] + (self.WIDE[3] + ((3,),), rows), tuple(row + ((),) for row in SOURCES))
        self.assertIs(self.shows(head), False)

    def test_parts_and_heads_that_are_too_few(self):
        self.assertIs(self.shows((self.wide_with(4, self.WIDE[4][:2]), SOURCES[:2])), False)
        rows = tuple((part, cells[:2]) for part, cells in self.WIDE[4])
        head = (self.WIDE[:3] + (self.WIDE[3][:2], rows), tuple(row[:2] for row in SOURCES))
        self.assertIs(self.shows(head), False)
        self.assertIs(self.shows((self.wide_with(4, ()), ())), False)

    def test_parts_of_another_kind(self):
        table = (("k", "n", "v"), ((1, 0, 5),))
        split = (["k"], ["n"], ["v"])
        for part, head, wanted in (((1,), (0,), True), ((True,), (0,), False), (("1",), (0,), False),
                                   ((1,), (False,), False), ((1,), (None,), False), ([1], (0,), False)):
            wide = (("k",), ("n",), ("v",), (head,), ((part, ((5,),)),))
            with self.subTest(part=part, head=head):
                self.assertIs(self.shows((wide, (((0,),),)), table, split, ["sum"]), wanted)

    def test_other_ways(self):
        for ways in (("sum", "first"), ("last", "last"), ("count", "last"), ("sum", "least")):
            wide = folded_by(SALES, *SPLIT, ways, "seen")
            self.assertIs(self.shows((wide, SOURCES), ways=ways), True)
            self.assertIs(self.shows((wide, SOURCES)), False)

    def test_without_rows(self):
        split = (["a"], ["b"], ["c"])
        told = (("a",), ("b",), ("c",), (), ())
        self.assertIs(self.shows((told, ()), NO_ROWS, split, ["sum"]), True)
        for heads, rows, numbers in ((((1,),), (), ()), ((), (((1,), ()),), ((),)),
                                     (((1,),), (((1,), (None,)),), (((),),)), ((), (), ((),))):
            with self.subTest(heads=heads, rows=rows):
                self.assertIs(self.shows((told[:3] + (heads, rows), numbers), NO_ROWS, split, ["sum"]), False)

    def test_many_tables(self):
        for steps, table, key, names, values in some_cases(15, 120, NUMBERS + (None,)):
            order = steps.one_of(("seen", "rising"))
            ways = [steps.one_of(WAYS) for _ in values]
            with self.subTest(table=table, key=key, names=names, values=values, ways=ways, order=order):
                wide = folded_by(table, key, names, values, ways, order)
                told = sources(table, key, names, order)
                self.assertIs(self.shows((wide, told), table, (key, names, values), ways), True)
                if table[1]:
                    fewer = (table[0], table[1][:-1])
                    self.assertIs(self.shows((wide, told), fewer, (key, names, values), ways), False)
                    more = (table[0], table[1] + table[1][:1])
                    self.assertIs(self.shows((wide, told), more, (key, names, values), ways), False)


if __name__ == "__main__":
    unittest.main()
