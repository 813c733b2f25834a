"""Sums along keys and heads ([1], [2], [3], [11])."""

import unittest

from pivotfold.along import added, margins, rolled, running
from pivotfold.errors import BadColumns, BadOrder, BadWay, NoNumber
from pivotfold.foldby import folded_by, sources
from pivotfold.folding import filled, is_wide
from pivotfold.tables import kept
from pivotfold.ways import put_together
from tests.helper import ADDED_WAYS, BIG, NUMBERS, VALUES, WAYS, ask, refusal, some_cases, some_wides, unlike

SALES = (
    ("land", "town", "year", "item", "sold", "note"),
    (
        ("de", "Ulm", 2, "pen", 10, "b"),
        ("de", "Aue", 1, "ink", None, "x"),
        ("at", "Ulm", 2, "ink", 3, None),
        ("de", "Ulm", 1, "pen", 9, 7),
        ("de", "Ulm", 2, "pen", 5, "a"),
        ("at", "Linz", 1, "pen", -4, ""),
    ),
)
SPLIT = (["land", "town"], ["year", "item"], ["sold", "note"])

WIDE = (
    ("land", "town"), ("year", "item"), ("sold", "most"),
    ((2, "pen"), (1, "ink"), (2, "ink")),
    (
        (("de", "Ulm"), ((10, "b"), None, (3, None))),
        (("at", "Ulm"), (None, (None, 8), None)),
        (("de", "Aue"), ((1, 5), (2, "a"), None)),
        (("at", "Linz"), (None, None, None)),
        (("ch", "Chur"), (None, None, None)),
    ),
)
NO_ROWS = (("k",), ("n",), ("v",), ((1,), (2,)), ())
NO_HEADS = (("k",), ("n",), ("v",), (), (((1,), ()), ((2,), ())))
NOTHING = (("k",), ("n",), ("v",), (), ())
EMPTY = (("a", "b", "c"), ())
FEW = (("a", "b", "c"), ((1, 2, 3), (1, 2, "x")))


class RolledTest(unittest.TestCase):
    def test_some_of_each(self):
        self.assertEqual(
            ask(rolled, SALES, *SPLIT, ["sum", "last"], "seen", 1, 1),
            (("land",), ("year",), ("sold", "note"), ((2,), (1,)),
             ((("de",), ((15, "a"), (9, 7))), (("at",), ((3, None), (-4, ""))))))
        self.assertEqual(
            ask(rolled, SALES, *SPLIT, ["sum", "first"], "rising", 1, 1),
            (("land",), ("year",), ("sold", "note"), ((1,), (2,)),
             ((("de",), ((9, "x"), (15, "b"))), (("at",), ((-4, ""), (3, None))))))

    def test_all_and_none(self):
        self.assertEqual(ask(rolled, SALES, *SPLIT, ["sum", "count"], "seen", 2, 2),
                         folded_by(SALES, *SPLIT, ["sum", "count"], "seen"))
        self.assertEqual(ask(rolled, SALES, *SPLIT, ["sum", "count"], "rising", 0, 0),
                         ((), (), ("sold", "note"), ((),), (((), ((23, 5),)),)))
        self.assertEqual(ask(rolled, SALES, *SPLIT, ["unlike", "unlike"], "seen", 0, 1),
                         ((), ("year",), ("sold", "note"), ((2,), (1,)), (((), ((3, 2), (2, 3))),)))
        self.assertEqual(ask(rolled, SALES, *SPLIT, ["least", "greatest"], "seen", 1, 0),
                         (("land",), (), ("sold", "note"), ((),), ((("de",), ((5, "x"),)), (("at",), ((-4, ""),)))))

    def test_without_rows(self):
        for deep in (0, 1):
            for far in (0, 1):
                self.assertEqual(ask(rolled, EMPTY, ["a"], ["b"], ["c"], ["sum"], "seen", deep, far),
                                 (("a",)[:deep], ("b",)[:far], ("c",), (), ()))

    def test_tuples_may_be_handed_in(self):
        self.assertEqual(
            ask(rolled, SALES, tuple(SPLIT[0]), tuple(SPLIT[1]), tuple(SPLIT[2]), ("sum", "last"), "seen", 1, 1),
            ask(rolled, SALES, *SPLIT, ["sum", "last"], "seen", 1, 1))

    def test_many_tables(self):
        for steps, table, key, names, values in some_cases(21, 100, NUMBERS + (None,)):
            order = steps.one_of(("seen", "rising"))
            ways = [steps.one_of(WAYS) for _ in values]
            for deep in range(len(key) + 1):
                for far in range(len(names) + 1):
                    with self.subTest(table=table, key=key, names=names, ways=ways, deep=deep, far=far):
                        left = kept(table, key[:deep] + names[:far] + values)
                        self.assertEqual(ask(rolled, table, key, names, values, ways, order, deep, far),
                                         folded_by(left, key[:deep], names[:far], values, ways, order))

    def refused(self, error, *handed):
        for deep in (0, 1):
            for far in (0, 1):
                with self.subTest(handed=handed, deep=deep, far=far):
                    self.assertIs(type(refusal(rolled, *handed, deep, far)), error)

    def test_bad_columns_of_those_left_out_too(self):
        for key, names, values in ((["a", "a"], ["b"], ["c"]), (["a"], ["b", "x"], ["c"]), (["a"], [], ["c"]),
                                   (["a"], ["b"], []), (["a"], ["b", "a"], ["c"]), (["a", "c"], ["b"], ["c"])):
            for table in (EMPTY, FEW):
                self.refused(BadColumns, table, key, names, values, ["sum"], "seen")
                self.refused(BadColumns, table, key, names, values, ["no"], "no")

    def test_bad_order(self):
        for table in (EMPTY, FEW):
            for ways in (["sum"], ["no"], []):
                self.refused(BadOrder, table, ["a"], ["b"], ["c"], ways, "falling")

    def test_bad_way(self):
        for table in (EMPTY, FEW):
            for ways in (["no"], [], ["sum", "sum"]):
                self.refused(BadWay, table, ["a"], ["b"], ["c"], ways, "rising")

    def test_no_number(self):
        self.refused(NoNumber, FEW, ["a"], ["b"], ["c"], ["sum"], "rising")


class AddedTest(unittest.TestCase):
    def test_parts_and_heads_cut_as_first_seen(self):
        self.assertEqual(
            ask(added, WIDE, ["sum", "least"], 1, 1),
            (("land",), ("year",), ("sold", "most"), ((2,), (1,)),
             ((("de",), ((14, 5), (2, "a"))), (("at",), (None, (0, 8))), (("ch",), (None, None)))))

    def test_greatest_and_count(self):
        self.assertEqual(
            ask(added, WIDE, ["count", "greatest"], 1, 1),
            (("land",), ("year",), ("sold", "most"), ((2,), (1,)),
             ((("de",), ((14, "b"), (2, "a"))), (("at",), (None, (0, 8))), (("ch",), (None, None)))))

    def test_all_of_each(self):
        told = ask(added, WIDE, ["sum", "least"], 2, 2)
        self.assertEqual(told[:4], WIDE[:4])
        self.assertEqual(told[4][1], (("at", "Ulm"), (None, (0, 8), None)))
        self.assertEqual(told[4][:1] + told[4][2:], WIDE[4][:1] + WIDE[4][2:])

    def test_the_cells_of_one_head_and_of_one_part(self):
        self.assertEqual(
            ask(added, WIDE, ["greatest", "greatest"], 2, 0),
            (("land", "town"), (), ("sold", "most"), ((),),
             ((("de", "Ulm"), ((10, "b"),)), (("at", "Ulm"), ((None, 8),)), (("de", "Aue"), ((2, "a"),)),
              (("at", "Linz"), (None,)), (("ch", "Chur"), (None,)))))
        self.assertEqual(
            ask(added, WIDE, ["least", "least"], 0, 2),
            ((), ("year", "item"), ("sold", "most"), WIDE[3], (((), ((1, 5), (2, 8), (3, None))),)))

    def test_none_is_passed_over(self):
        wide = ((), ("n",), ("v",), ((1,), (2,), (3,)), (((), ((None,), (4,), None)),))
        for way, total in (("sum", 4), ("count", 4), ("least", 4), ("greatest", 4)):
            self.assertEqual(ask(added, wide, [way], 0, 0), ((), (), ("v",), ((),), (((), ((total,),)),)))
        alone = ((), ("n",), ("v",), ((1,), (2,)), (((), ((None,), (None,))),))
        for way, total in (("sum", 0), ("count", 0), ("least", None), ("greatest", None)):
            self.assertEqual(ask(added, alone, [way], 0, 0), ((), (), ("v",), ((),), (((), ((total,),)),)))

    def test_gaps_alone_make_a_gap(self):
        wide = (("k",), ("n",), ("v",), ((1,), (2,)), (((1,), (None, None)),))
        for way in ADDED_WAYS:
            self.assertEqual(ask(added, wide, [way], 0, 0), ((), (), ("v",), ((),), (((), (None,)),)))
            self.assertEqual(ask(added, wide, [way], 1, 1), wide)

    def test_without_rows_or_heads(self):
        self.assertEqual(ask(added, NO_ROWS, ["sum"], 0, 0), ((), (), ("v",), ((),), ()))
        self.assertEqual(ask(added, NO_ROWS, ["sum"], 0, 1), ((), ("n",), ("v",), ((1,), (2,)), ()))
        self.assertEqual(ask(added, NO_HEADS, ["sum"], 0, 0), ((), (), ("v",), (), (((), ()),)))
        self.assertEqual(ask(added, NO_HEADS, ["sum"], 1, 0), (("k",), (), ("v",), (), (((1,), ()), ((2,), ()))))
        self.assertEqual(ask(added, NOTHING, ["sum"], 0, 0), ((), (), ("v",), (), ()))

    def test_tuples_may_be_handed_in(self):
        self.assertEqual(ask(added, WIDE, ("sum", "least"), 1, 1), ask(added, WIDE, ["sum", "least"], 1, 1))

    def test_bad_way(self):
        for ways in (["first", "sum"], ["sum", "last"], ["unlike", "sum"], ["no", "sum"], ["sum", ""], [], ["sum"],
                     ["sum", "least", "sum"], ["least", "Sum"]):
            for wide in (WIDE, WIDE[:4] + ((),), WIDE[:3] + ((), ())):
                for deep in (0, 2):
                    with self.subTest(ways=ways, deep=deep):
                        self.assertIs(type(refusal(added, wide, ways, deep, 0)), BadWay)

    def test_no_number(self):
        for ways in (["sum", "sum"], ["sum", "count"], ["least", "sum"]):
            for deep in (0, 1, 2):
                for far in (0, 1, 2):
                    with self.subTest(ways=ways, deep=deep, far=far):
                        self.assertIs(type(refusal(added, WIDE, ways, deep, far)), NoNumber)
        alone = ((), (), ("v",), ((),), (((), (("",),)),))
        self.assertIs(type(refusal(added, alone, ["sum"], 0, 0)), NoNumber)
        self.assertIs(type(refusal(added, alone, ["count"], 0, 0)), NoNumber)
        self.assertIs(type(refusal(added, alone, ["first"], 0, 0)), BadWay)

    def test_sixty_parts_and_heads(self):
        heads = tuple((number // 10, number % 10) for number in range(60))
        rows = tuple(((number // 20, number), ((BIG,),) * 60) for number in range(60))
        wide = (("a", "b"), ("c", "d"), ("v",), heads, rows)
        self.assertEqual(ask(added, wide, ["sum"], 1, 1)[4],
                         tuple(((number,), ((200 * BIG,),) * 6) for number in range(3)))

    def test_added_of_folded_by_is_rolled(self):
        for pool, start, ways_here in ((NUMBERS + (None,), 22, ADDED_WAYS), (VALUES, 23, ADDED_WAYS[1:])):
            for steps, table, key, names, values in some_cases(start, 100, pool):
                order = steps.one_of(("seen", "rising"))
                ways = [steps.one_of(ways_here) for _ in values]
                wide = folded_by(table, key, names, values, ways, order)
                for deep in range(len(key) + 1):
                    for far in range(len(names) + 1):
                        with self.subTest(table=table, key=key, names=names, ways=ways, deep=deep, far=far):
                            self.assertEqual(ask(added, wide, ways, deep, far),
                                             rolled(table, key, names, values, ways, order, deep, far))

    def test_added_up_is_what_the_rows_come_to(self):
        for _, table, key, names, values in some_cases(24, 60, NUMBERS + (None,)):
            told = added(folded_by(table, key, names, values, ["sum"] * len(values), "seen"), ["sum"] * len(values), 0, 0)
            totals = [sum(row[table[0].index(name)] or 0 for row in table[1]) for name in values]
            self.assertEqual(told[4], (((), (tuple(totals),)),) if table[1] else ())
            self.assertEqual(len(sources(table, [], [], "seen")), len(told[4]))

    def test_many_folded_tables(self):
        for steps, wide in some_wides(25, 150, NUMBERS + (None,)):
            ways = [steps.one_of(ADDED_WAYS) for _ in wide[2]]
            deep, far = steps.below(len(wide[0]) + 1), steps.below(len(wide[1]) + 1)
            with self.subTest(wide=wide, ways=ways, deep=deep, far=far):
                told = ask(added, wide, ways, deep, far)
                self.assertIs(is_wide(told), True)
                self.assertEqual(told[:3], (wide[0][:deep], wide[1][:far], wide[2]))
                self.assertEqual(list(told[3]), unlike(head[:far] for head in wide[3]))
                self.assertEqual([part for part, _ in told[4]], unlike(part[:deep] for part, _ in wide[4]))
                for part, cells in told[4]:
                    for head, cell in zip(told[3], cells):
                        some = [each for row in wide[4] if row[0][:deep] == part
                                for full, each in zip(wide[3], row[1]) if full[:far] == head and each is not None]
                        self.assertEqual(cell, self.together(some, ways))

    def together(self, cells, ways):
        if not cells:
            return None
        return tuple(put_together(list(some), "sum" if way == "count" else way) for some, way in zip(zip(*cells), ways))


class MarginsTest(unittest.TestCase):
    def test_the_triple(self):
        told = ask(margins, WIDE, ["sum", "greatest"])
        self.assertIs(type(told), tuple)
        self.assertEqual(told, (
            (("land", "town"), (), ("sold", "most"), ((),),
             ((("de", "Ulm"), ((13, "b"),)), (("at", "Ulm"), ((0, 8),)), (("de", "Aue"), ((3, "a"),)),
              (("at", "Linz"), (None,)), (("ch", "Chur"), (None,)))),
            ((), ("year", "item"), ("sold", "most"), WIDE[3], (((), ((11, "b"), (2, "a"), (3, None))),)),
            ((), (), ("sold", "most"), ((),), (((), ((16, "b"),)),))))

    def test_they_are_as_added(self):
        for steps, wide in some_wides(26, 60, NUMBERS + (None,)):
            ways = tuple(steps.one_of(ADDED_WAYS) for _ in wide[2])
            self.assertEqual(ask(margins, wide, ways), (
                added(wide, ways, len(wide[0]), 0), added(wide, ways, 0, len(wide[1])), added(wide, ways, 0, 0)))

    def test_without_rows_or_heads(self):
        self.assertEqual(ask(margins, NO_ROWS, ["sum"]),
                         ((("k",), (), ("v",), ((),), ()), ((), ("n",), ("v",), ((1,), (2,)), ()),
                          ((), (), ("v",), ((),), ())))
        self.assertEqual(ask(margins, NOTHING, ["least"]),
                         ((("k",), (), ("v",), (), ()), ((), ("n",), ("v",), (), ()), ((), (), ("v",), (), ())))

    def test_refused_as_added(self):
        for ways in (["first", "sum"], ["sum"], [], ["no", "sum"]):
            self.assertIs(type(refusal(margins, WIDE, ways)), BadWay)
            self.assertIs(type(refusal(margins, WIDE[:4] + ((),), ways)), BadWay)
        self.assertIs(type(refusal(margins, WIDE, ["sum", "sum"])), NoNumber)
        self.assertIs(type(refusal(margins, WIDE, ["least", "count"])), NoNumber)


class RunningTest(unittest.TestCase):
    def test_column_by_column_in_each_row(self):
        wide = (("k",), ("n",), ("v", "w"), ((3,), (1,), (2,), (4,)),
                (((1,), ((5, 1), None, (-7, 2), (0, BIG))), ((2,), (None, (1, 1), (1, 1), None)),
                 ((3,), (None, None, None, None))))
        self.assertEqual(ask(running, wide), wide[:4] + ((
            ((1,), ((5, 1), None, (-2, 3), (-2, BIG + 3))), ((2,), (None, (1, 1), (2, 2), None)),
            ((3,), (None, None, None, None))),))

    def test_without_rows_heads_or_cells(self):
        for wide in (NO_ROWS, NO_HEADS, NOTHING, ((), (), ("v",), ((),), (((), (None,)),)),
                     ((), (), ("v",), ((),), (((), ((3,),)),))):
            self.assertEqual(ask(running, wide), wide)

    def test_no_number(self):
        for wrong in (None, "", "1", "a"):
            for place in range(2):
                for row in range(2):
                    cells = [[(1, 1), None, (2, 2)], [(3, 3), (4, 4), None]]
                    cells[row][place * 2 * (1 - row)] = (wrong, 1) if place else (1, wrong)
                    wide = (("k",), ("n",), ("v", "w"), ((1,), (2,), (3,)),
                            (((1,), tuple(cells[0])), ((2,), tuple(cells[1]))))
                    with self.subTest(wide=wide):
                        self.assertIs(type(refusal(running, wide)), NoNumber)
        alone = ((), (), ("v",), ((),), (((), ((None,),)),))
        self.assertIs(type(refusal(running, alone)), NoNumber)

    def test_parts_and_heads_may_be_anything(self):
        wide = (("k",), ("n",), ("v",), (("a",), (None,)), (((None,), ((1,), (2,))), (("b",), ((3,), (4,)))))
        self.assertEqual(ask(running, wide)[4], (((None,), ((1,), (3,))), (("b",), ((3,), (7,)))))

    def test_the_last_is_the_sum_of_the_row(self):
        for _, wide in some_wides(27, 100, NUMBERS):
            full = filled(wide, (0,) * len(wide[2]))
            told = ask(running, full)
            self.assertIs(is_wide(told), True)
            if wide[3]:
                sums = added(full, ["sum"] * len(wide[2]), len(wide[0]), 0)
                self.assertEqual([cells[-1] for _, cells in told[4]], [cells[0] for _, cells in sums[4]])
            gapped = ask(running, wide)
            for row, full_row, gapped_row in zip(wide[4], told[4], gapped[4]):
                self.assertEqual(tuple(None if cell is None else full_cell for cell, full_cell in zip(row[1], full_row[1])),
                                 gapped_row[1])


if __name__ == "__main__":
    unittest.main()
