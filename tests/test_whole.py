"""What is promised of the whole program, from file to file ([1], [2], [3] and the interface)."""

import importlib
import inspect
import unittest

from pivotfold.along import added, margins, rolled, running
from pivotfold.asking import answer, answer_wide, cells_where, rows_where
from pivotfold.errors import BadOrder, BadWay, NoColumn, NoHead, NoNumber, NoPart, NoRow
from pivotfold.foldby import folded_by, shows_folded, sources
from pivotfold.folding import cell, emptied, filled, folded, gaps, is_wide, unfolded
from pivotfold.keeper import Keeper
from pivotfold.moving import nested, to_head, to_key, turned, unnested
from pivotfold.orders import exchanged, heads_in, parts_by, parts_in
from pivotfold.tables import alike, column, is_key, is_table, kept, same_rows, sorted_by
from pivotfold.texts import table_from, table_text, wide_from, wide_text
from pivotfold.values import risen, stands_ahead
from pivotfold.ways import put_together
from tests.helper import ADDED_WAYS, BIG, NUMBERS, VALUES, ask, some_cases, some_wides, without_doubles

INTERFACE = {
    "values": {"is_value": "thing", "stands_ahead": "one other", "risen": "values"},
    "tables": {"is_table": "thing", "column": "table name", "kept": "table names", "sorted_by": "table names",
               "alike": "table names", "is_key": "table names", "same_rows": "one other"},
    "folding": {"is_wide": "thing", "folded": "table key names values order", "unfolded": "wide",
                "cell": "wide part head", "gaps": "wide", "filled": "wide cell", "emptied": "wide"},
    "ways": {"put_together": "some way"},
    "foldby": {"folded_by": "table key names values ways order", "sources": "table key names order",
               "shows_folded": "table key names values ways thing"},
    "along": {"rolled": "table key names values ways order deep far", "added": "wide ways deep far",
              "margins": "wide ways", "running": "wide"},
    "orders": {"heads_in": "wide order", "parts_in": "wide order", "parts_by": "wide head name", "exchanged": "wide"},
    "moving": {"turned": "wide key names", "to_head": "wide name", "to_key": "wide name", "nested": "wide deep",
               "unnested": "nest key"},
    "asking": {"rows_where": "table conditions", "cells_where": "wide conditions", "answer": "table question",
               "answer_wide": "wide question"},
    "keeper": {"Keeper": "columns key names values ways order"},
    "texts": {"table_text": "table", "table_from": "text", "wide_text": "wide", "wide_from": "text"},
}
KEEPER = {"put_row": "row", "take_row": "number", "undo": "", "wide_now": "", "rows_now": "", "rows_of": "part head"}


def names_of(deed):
    return " ".join(inspect.signature(deed).parameters)


class InterfaceTest(unittest.TestCase):
    def test_names_and_arguments(self):
        for file, deeds in INTERFACE.items():
            module = importlib.import_module("pivotfold." + file)
            for name, arguments in deeds.items():
                with self.subTest(file=file, name=name):
                    self.assertEqual(names_of(getattr(module, name)), arguments)

    def test_deeds_of_a_keeper(self):
        keeper = Keeper(["v"], [], [], ["v"], ["sum"], "seen")
        for name, arguments in KEEPER.items():
            with self.subTest(name=name):
                self.assertEqual(names_of(getattr(keeper, name)), arguments)


class WholeTest(unittest.TestCase):
    def test_folded_unfolded_moved_written_and_read(self):
        for steps, table, key, names, values in some_cases(81, 100, VALUES):
            table = without_doubles(table, key + names)
            with self.subTest(table=table, key=key, names=names, values=values):
                wide = folded(table_from(table_text(table)), key, names, values, steps.one_of(("seen", "rising")))
                columns = steps.mixed(key + names)
                many = steps.below(len(columns) + 1)
                moved = wide_from(wide_text(turned(wide, columns[:many], columns[many:])))
                back = kept(unfolded(moved), table[0])
                self.assertIs(same_rows(back, table), True)

    def test_each_row_in_one_cell_and_kept_as_folded_anew(self):
        for steps, table, key, names, values in some_cases(82, 60, NUMBERS + (None,)):
            order = steps.one_of(("seen", "rising"))
            ways = [steps.one_of(ADDED_WAYS) for _ in values]
            keeper = Keeper(table[0], key, names, values, ways, order)
            for number, row in enumerate(table[1]):
                self.assertEqual(keeper.put_row(row)[0], number)
            with self.subTest(table=table, key=key, names=names, values=values, ways=ways, order=order):
                wide = keeper.wide_now()
                self.assertEqual(wide, folded_by(table, key, names, values, ways, order))
                told = tuple(tuple(keeper.rows_of(part, head) for head in wide[3]) for part, _ in wide[4])
                self.assertEqual(told, sources(table, key, names, order))
                self.assertIs(shows_folded(table, key, names, values, ways, (wide, told)), True)

    def test_what_is_added_up_along_is_what_the_rows_come_to(self):
        for steps, table, key, names, values in some_cases(83, 60, NUMBERS + (None,)):
            ways = [steps.one_of(("sum", "least", "greatest")) for _ in values]
            wide = folded_by(table, key, names, values, ways, "seen")
            with self.subTest(table=table, key=key, names=names, values=values, ways=ways):
                total = added(wide, ways, 0, 0)
                self.assertEqual(total, rolled(table, key, names, values, ways, "seen", 0, 0))
                self.assertEqual(margins(wide, ways)[2], total)
                for place, (name, way) in enumerate(zip(values, ways)):
                    cells = [cells[0][place] for _, cells in total[4]]
                    self.assertEqual(cells, [answer(table, (way, name, []))] if table[1] else [])
                    self.assertEqual(answer_wide(wide, (way, name, [])), answer(table, (way, name, [])))

    def test_what_was_told_may_be_handed_in_again(self):
        for steps, wide in some_wides(84, 80, NUMBERS):
            told = [heads_in(wide, "falling"), parts_in(wide, "rising"), exchanged(wide), emptied(wide), running(wide),
                    filled(wide, (0,) * len(wide[2])), added(wide, ["sum"] * len(wide[2]), len(wide[0]), 0),
                    turned(wide, wide[1], wide[0])]
            told += [rest for _, rest in nested(wide, len(wide[0]))]
            told += [to_head(wide, name) for name in wide[0]] + [to_key(wide, name) for name in wide[1]]
            for each in told:
                with self.subTest(wide=wide, each=each):
                    self.assertIs(is_wide(each), True)
                    self.assertEqual(ask(wide_from, wide_text(each)), each)
                    self.assertIs(is_table(ask(unfolded, each)), True)
                    self.assertEqual(len(cells_where(each, [])), len(unfolded(each)[1]))

    def test_more_than_the_bounds_is_told_and_handed_in_again(self):
        heads = tuple((number,) for number in range(60))
        rows = tuple(((number,), tuple((number + 60 * head,) for head in range(60))) for number in range(60))
        table = unfolded((("k",), ("n",), ("v",), heads, rows))
        self.assertEqual(len(table[1]), 3600)
        self.assertEqual(len(rows_where(table, [("v", "below", 1800)])), 1800)
        self.assertEqual(answer(table, ("sum", "v", [])), 3599 * 1800)
        wide = turned(folded(table, ["k"], ["n"], ["v"], "seen"), ["n", "k"], [])
        self.assertEqual(len(wide[4]), 3600)
        self.assertEqual(len(nested(wide, 1)), 60)
        self.assertEqual(wide_from(wide_text(wide)), wide)
        self.assertEqual(table_from(table_text(table)), table)


class LongNumbersTest(unittest.TestCase):
    """Numbers of more figures than Python writes at once, as a text may hold: no refusal may stumble over them."""

    def setUp(self):
        self.long = table_from("table v\nrow " + "7" * 4900)[1][0][0]
        self.table = (("k", "n", "v"), ((self.long, 1, self.long), (1, self.long, -self.long), (None, "", 5)))
        self.wide = folded(self.table, ["k"], ["n"], ["v"], "rising")

    def refused(self, error, deed, *handed):
        with self.assertRaises(error) as caught:
            deed(*handed)
        self.assertTrue(type(caught.exception) is error)

    def test_told(self):
        self.assertTrue(answer(self.table, ("sum", "v", [])) == 5)
        self.assertTrue(answer_wide(self.wide, ("greatest", "v", [])) == self.long)
        self.assertTrue(put_together([self.long, self.long], "sum") == 2 * self.long)
        self.assertTrue(cell(self.wide, (self.long,), (1,)) == (self.long,))
        self.assertTrue(risen([self.long, "", None, -self.long, 0]) == [None, -self.long, 0, self.long, ""])
        self.assertTrue(stands_ahead(BIG, self.long))
        self.assertTrue(wide_from(wide_text(self.wide)) == self.wide)
        self.assertTrue(unnested(nested(self.wide, 1), ["k"]) == self.wide)
        self.assertTrue(exchanged(exchanged(self.wide)) == self.wide)
        self.assertTrue(is_wide(to_head(self.wide, "k")) and is_wide(to_key(self.wide, "n")))

    def test_refused(self):
        self.refused(NoPart, cell, self.wide, (-self.long,), (1,))
        self.refused(NoHead, cell, self.wide, (self.long,), (-self.long,))
        self.refused(NoHead, parts_by, self.wide, (-self.long,), "v")
        self.refused(NoColumn, parts_by, self.wide, (self.long,), "k")
        self.refused(BadOrder, heads_in, self.wide, ("told", self.long))
        self.refused(BadOrder, parts_in, self.wide, ("no", [(self.long,)]))
        self.refused(BadOrder, folded, self.table, ["k"], ["n"], ["v"], ("told", [(self.long,)]))
        self.refused(BadWay, put_together, [self.long], "no")
        self.refused(BadWay, rows_where, self.table, [("k", "no", self.long)])
        self.refused(NoColumn, rows_where, self.table, [("x", "is", self.long)])
        self.refused(NoNumber, answer, self.table, ("sum", "n", []))

    def test_kept(self):
        keeper = Keeper(["k", "v"], ["k"], [], ["v"], ["sum"], "rising")
        keeper.put_row((self.long, self.long))
        self.assertTrue(keeper.put_row((self.long, 1)) == (1, [((self.long,), (), (self.long,), (self.long + 1,))]))
        self.refused(NoNumber, keeper.put_row, (self.long, ""))
        self.refused(NoRow, keeper.take_row, self.long)
        self.assertTrue(keeper.undo() == [((self.long,), (), (self.long + 1,), (self.long,))])


class AskersOwnTest(unittest.TestCase):
    TABLE = (("a", "b", "c"), ((1, 2, 3), (2, 2, None), (1, 1, 4)))

    def test_told_lists_may_be_changed(self):
        wide = folded(self.TABLE, ["a"], ["b"], ["c"], "seen")
        for deed, handed in (
                (risen, ([2, 1],)), (column, (self.TABLE, "a")), (alike, (self.TABLE, ["a"])), (gaps, (wide,)),
                (rows_where, (self.TABLE, [])), (cells_where, (wide, [])), (answer, (self.TABLE, ("rows", []))),
                (answer, (self.TABLE, ("all", "a", []))), (answer_wide, (wide, ("rows", [])))):
            with self.subTest(deed=deed.__name__):
                told = deed(*handed)
                wanted = repr(told)
                self.assertIs(type(told), list)
                told.append("x")
                told.pop(0)
                told.reverse()
                self.assertEqual(repr(deed(*handed)), wanted)

    def test_the_same_is_told_again_after_other_questions(self):
        first = [sorted_by(self.TABLE, ["c"]), is_key(self.TABLE, ["a"]), answer(self.TABLE, ("sum", "c", []))]
        Keeper(["a"], [], [], ["a"], ["sum"], "seen").put_row((1,))
        table_from("table a\nrow 1")
        again = [sorted_by(self.TABLE, ["c"]), is_key(self.TABLE, ["a"]), answer(self.TABLE, ("sum", "c", []))]
        self.assertEqual(first, again)


if __name__ == "__main__":
    unittest.main()
