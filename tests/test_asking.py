"""Conditions and questions, asked of tables and of folded tables ([1], [2], [3], [15], [16])."""

import unittest

from pivotfold.asking import answer, answer_wide, cells_where, rows_where
from pivotfold.errors import BadWay, NoColumn, NoNumber
from pivotfold.folding import folded, unfolded
from pivotfold.ways import put_together
from tests.helper import BIG, NUMBERS, VALUES, WAYS, ask, compared, refusal, rising, some_cases, some_wides, unlike
from tests.helper import without_doubles

SALES = (
    ("town", "year", "sold"),
    (
        ("Ulm", 2, 10),
        ("Aue", 1, None),
        ("Ulm", 1, 9),
        ("Ulm", 2, "9"),
        (None, 1, 0),
        ("", "1", -4),
        ("Aue", 2, 10),
    ),
)
WIDE = (
    ("town",), ("year",), ("sold", "note"),
    ((2,), (1,), (None,)),
    (
        (("Ulm",), ((10, "b"), (9, None), None)),
        (("Aue",), (None, None, None)),
        (("Linz",), (None, (None, ""), (10, "a"))),
    ),
)
EMPTY = (("a", "b"), ())
CONDITION_WORDS = ("is", "not", "below", "above")
WRONG_WORDS = ("", "Is", "is ", "are", "behind", "ahead", "sum", "=", "<", "i", "isnot")


def holds(value, word, told):
    order = compared((value,), (told,))
    return {"is": order == 0, "not": order != 0, "below": order < 0, "above": order > 0}[word]


def numbers_where(table, conditions):
    return [number for number, row in enumerate(table[1])
            if all(holds(row[table[0].index(name)], word, value) for name, word, value in conditions)]


def some_conditions(steps, columns, pool, most):
    return [(steps.one_of(columns), steps.one_of(CONDITION_WORDS), steps.one_of(pool)) for _ in range(steps.below(most))]


def answered(table, question):
    """What is asked for, from the rows one by one; put_together is tested by itself."""
    rows = [table[1][number] for number in numbers_where(table, question[-1])]
    if question[0] == "rows":
        return rows
    some = [row[table[0].index(question[1])] for row in rows]
    if question[0] == "all":
        return [value for value, in rising((value,) for value in unlike(some))]
    return put_together(some, question[0]) if some else None


class RowsWhereTest(unittest.TestCase):
    def test_each_word(self):
        for condition, wanted in (
                (("town", "is", "Ulm"), [0, 2, 3]), (("town", "not", "Ulm"), [1, 4, 5, 6]),
                (("town", "is", None), [4]), (("town", "not", None), [0, 1, 2, 3, 5, 6]),
                (("town", "is", ""), [5]), (("town", "is", "ulm"), []),
                (("year", "is", 1), [1, 2, 4]), (("year", "is", "1"), [5]), (("year", "not", 1), [0, 3, 5, 6]),
                (("year", "below", 2), [1, 2, 4]), (("year", "above", 1), [0, 3, 5, 6]),
                (("year", "above", 2), [5]), (("year", "below", "1"), [0, 1, 2, 3, 4, 6]),
                (("sold", "below", 0), [1, 5]), (("sold", "above", 0), [0, 2, 3, 6]),
                (("sold", "below", None), []), (("sold", "above", None), [0, 2, 3, 4, 5, 6]),
                (("sold", "above", 10), [3]), (("sold", "below", ""), [0, 1, 2, 4, 5, 6]),
                (("sold", "above", "9"), []), (("sold", "below", 9), [1, 4, 5])):
            with self.subTest(condition=condition):
                self.assertEqual(ask(rows_where, SALES, [condition]), wanted)

    def test_every_pair_of_values(self):
        table = (("v",), tuple((value,) for value in VALUES))
        for word in CONDITION_WORDS:
            for value in VALUES:
                with self.subTest(word=word, value=value):
                    self.assertEqual(ask(rows_where, table, [("v", word, value)]),
                                     [number for number, each in enumerate(VALUES) if holds(each, word, value)])

    def test_all_of_several_hold(self):
        self.assertEqual(ask(rows_where, SALES, [("town", "is", "Ulm"), ("year", "is", 2)]), [0, 3])
        self.assertEqual(ask(rows_where, SALES, [("sold", "above", -5), ("sold", "below", 10)]), [2, 4, 5])
        self.assertEqual(ask(rows_where, SALES, [("town", "is", "Ulm"), ("town", "not", "Ulm")]), [])
        self.assertEqual(ask(rows_where, SALES, [("town", "is", "Ulm")] * 3), [0, 2, 3])

    def test_no_conditions(self):
        self.assertEqual(ask(rows_where, SALES, []), [0, 1, 2, 3, 4, 5, 6])
        self.assertEqual(ask(rows_where, SALES, ()), [0, 1, 2, 3, 4, 5, 6])

    def test_without_rows(self):
        self.assertEqual(ask(rows_where, EMPTY, []), [])
        self.assertEqual(ask(rows_where, EMPTY, [("a", "not", 1)]), [])

    def test_tuples_may_be_handed_in(self):
        self.assertEqual(ask(rows_where, SALES, (("town", "is", "Ulm"), ("year", "is", 2))), [0, 3])

    def test_sixty_rows_of_twelve_columns(self):
        table = (tuple("abcdefghijkl"), tuple((number,) + (BIG,) * 11 for number in range(60)))
        conditions = [("a", "above", 20), ("l", "is", BIG), ("a", "below", 40), ("f", "above", BIG - 1)]
        self.assertEqual(ask(rows_where, table, conditions), list(range(21, 40)))

    def test_what_is_told_is_the_askers_own(self):
        conditions = [("town", "is", "Ulm")]
        told = rows_where(SALES, conditions)
        told.append(99)
        told[0] = None
        conditions.append(("year", "is", 1))
        self.assertEqual(rows_where(SALES, [("town", "is", "Ulm")]), [0, 2, 3])

    def test_many_tables(self):
        for steps, table, _, _, _ in some_cases(51, 150, VALUES):
            conditions = some_conditions(steps, table[0], VALUES, 4)
            with self.subTest(table=table, conditions=conditions):
                self.assertEqual(ask(rows_where, table, conditions), numbers_where(table, conditions))


class ConditionsRefusedTest(unittest.TestCase):
    DEEDS = ((rows_where, SALES), (rows_where, (SALES[0], ())), (cells_where, WIDE), (cells_where, WIDE[:4] + ((),)))

    def test_no_column_of_the_first_whose_column_is_none(self):
        for deed, asked in self.DEEDS:
            for conditions, name in (
                    ([("x", "is", 1)], "x"), ([("", "is", 1)], ""), ([("Town", "is", 1)], "Town"),
                    ([("town", "is", 1), ("y", "is", 1), ("x", "is", 1)], "y"),
                    ([("year", "is", 1), ("x", "is", 1), ("y", "is", 1)], "x"),
                    ([("year", "no", 1), ("x", "is", 1)], "x"), ([("x", "no", 1)], "x"),
                    ([("town", "no", 1), ("year", "", 1), ("sold", "is", 1), ("yea", "no", 1)], "yea")):
                for kind in (list, tuple):
                    with self.subTest(deed=deed.__name__, conditions=conditions):
                        told = refusal(deed, asked, kind(conditions))
                        self.assertIs(type(told), NoColumn)
                        self.assertEqual(told.name, name)

    def test_bad_way(self):
        for deed, asked in self.DEEDS:
            for word in WRONG_WORDS:
                for conditions in ([("town", word, 1)], [("town", "is", "none"), ("sold", word, None)],
                                   [("year", word, 1), ("year", "is", 1)]):
                    with self.subTest(deed=deed.__name__, conditions=conditions):
                        self.assertIs(type(refusal(deed, asked, conditions)), BadWay)


class CellsWhereTest(unittest.TestCase):
    def test_row_by_row_head_by_head(self):
        self.assertEqual(ask(cells_where, WIDE, []), [
            (("Ulm",), (2,)), (("Ulm",), (1,)), (("Linz",), (1,)), (("Linz",), (None,))])

    def test_conditions_of_key_names_and_values(self):
        for conditions, wanted in (
                ([("town", "is", "Linz")], [(("Linz",), (1,)), (("Linz",), (None,))]),
                ([("town", "is", "Aue")], []),
                ([("year", "is", 1)], [(("Ulm",), (1,)), (("Linz",), (1,))]),
                ([("year", "below", 1)], [(("Linz",), (None,))]),
                ([("sold", "is", 10)], [(("Ulm",), (2,)), (("Linz",), (None,))]),
                ([("sold", "is", None)], [(("Linz",), (1,))]),
                ([("note", "is", None)], [(("Ulm",), (1,))]),
                ([("note", "above", "")], [(("Ulm",), (2,)), (("Linz",), (None,))]),
                ([("note", "above", ""), ("year", "is", 2)], [(("Ulm",), (2,))])):
            for kind in (list, tuple):
                with self.subTest(conditions=conditions):
                    self.assertEqual(ask(cells_where, WIDE, kind(conditions)), wanted)

    def test_gaps_alone_or_nothing(self):
        for wide in (WIDE[:4] + ((),), WIDE[:3] + ((), ((("Ulm",), ()),)), WIDE[:3] + ((), ()),
                     WIDE[:4] + (((("Ulm",), (None, None, None)),),)):
            self.assertEqual(ask(cells_where, wide, []), [])
            self.assertEqual(ask(cells_where, wide, [("sold", "not", 1)]), [])

    def test_no_columns_of_key_and_names(self):
        wide = ((), (), ("v",), ((),), (((), ((3,),)),))
        self.assertEqual(ask(cells_where, wide, [("v", "above", 2)]), [((), ())])
        self.assertEqual(ask(cells_where, wide, [("v", "above", 3)]), [])

    def test_what_is_told_is_the_askers_own(self):
        told = cells_where(WIDE, [])
        told.clear()
        self.assertEqual(len(cells_where(WIDE, [])), 4)

    def test_many_folded_tables(self):
        for steps, wide in some_wides(52, 200, VALUES):
            conditions = some_conditions(steps, wide[0] + wide[1] + wide[2], VALUES, 3)
            with self.subTest(wide=wide, conditions=conditions):
                wanted = []
                for part, cells in wide[4]:
                    for head, each in zip(wide[3], cells):
                        if each is not None:
                            row = dict(zip(wide[0] + wide[1] + wide[2], part + head + each))
                            if all(holds(row[name], word, value) for name, word, value in conditions):
                                wanted.append((part, head))
                self.assertEqual(ask(cells_where, wide, conditions), wanted)


class AnswerTest(unittest.TestCase):
    def test_rows(self):
        self.assertEqual(ask(answer, SALES, ("rows", [("town", "is", "Aue")])), [("Aue", 1, None), ("Aue", 2, 10)])
        self.assertEqual(ask(answer, SALES, ("rows", [])), list(SALES[1]))
        self.assertEqual(ask(answer, SALES, ("rows", (("town", "is", "Bonn"),))), [])
        twice = (("a",), ((1,), (2,), (1,)))
        self.assertEqual(ask(answer, twice, ("rows", [("a", "is", 1)])), [(1,), (1,)])

    def test_all(self):
        self.assertEqual(ask(answer, SALES, ("all", "town", [])), [None, "", "Aue", "Ulm"])
        self.assertEqual(ask(answer, SALES, ("all", "sold", [])), [None, -4, 0, 9, 10, "9"])
        self.assertEqual(ask(answer, SALES, ("all", "year", [])), [1, 2, "1"])
        self.assertEqual(ask(answer, SALES, ("all", "sold", [("town", "is", "Ulm")])), [9, 10, "9"])
        self.assertEqual(ask(answer, SALES, ("all", "sold", [("town", "is", "Bonn")])), [])

    def test_each_way(self):
        for word, ulm, aue in (("first", 10, None), ("last", 9, 10), ("count", 2, 1), ("least", 9, 10), ("sum", 19, 10),
                               ("greatest", 10, 10), ("unlike", 2, 1)):
            with self.subTest(word=word):
                question = (word, "sold", [("town", "is", "Ulm"), ("sold", "not", "9")])
                self.assertEqual(ask(answer, SALES, question), ulm)
                self.assertEqual(ask(answer, SALES, (word, "sold", (("town", "is", "Aue"),))), aue)

    def test_each_as_often(self):
        table = (("a", "b"), ((5, 1), (5, 1), (None, 1), (3, 1), (5, 2)))
        for word, wanted in (("first", 5), ("last", 3), ("sum", 13), ("count", 3), ("least", 3), ("greatest", 5),
                             ("unlike", 2), ("all", [None, 3, 5])):
            with self.subTest(word=word):
                self.assertEqual(ask(answer, table, (word, "a", [("b", "is", 1)])), wanted)

    def test_none_where_there_is_no_row(self):
        for word in WAYS:
            for question in ((word, "a", []), (word, "a", [("b", "is", 1)])):
                self.assertIsNone(ask(answer, EMPTY, question))
            self.assertIsNone(ask(answer, SALES, (word, "sold", [("town", "is", "Bonn")])))
        self.assertEqual(ask(answer, EMPTY, ("rows", [])), [])
        self.assertEqual(ask(answer, EMPTY, ("all", "a", [])), [])

    def test_where_there_are_rows_but_nones_alone(self):
        table = (("a",), ((None,), (None,)))
        for word, wanted in (("first", None), ("last", None), ("sum", 0), ("count", 0), ("least", None),
                             ("greatest", None), ("unlike", 0), ("all", [None])):
            self.assertEqual(ask(answer, table, (word, "a", [])), wanted)

    def test_what_is_told_is_the_askers_own(self):
        for question in (("rows", []), ("all", "sold", [])):
            told = answer(SALES, question)
            wanted = list(told)
            self.assertIs(type(told), list)
            told.append(1)
            told[0] = 99
            self.assertEqual(answer(SALES, question), wanted)

    def test_sixty_rows(self):
        table = (tuple("abcdefghijkl"), tuple((number % 3,) + (BIG,) * 11 for number in range(60)))
        self.assertEqual(ask(answer, table, ("sum", "l", [("a", "is", 1)])), 20 * BIG)
        self.assertEqual(ask(answer, table, ("all", "a", [("l", "above", 0)])), [0, 1, 2])

    def test_many_tables(self):
        for pool, start in ((VALUES, 53), (NUMBERS + (None,), 54)):
            words = [word for word in WAYS + ("all",) if word != "sum" or pool is not VALUES]
            for steps, table, _, _, _ in some_cases(start, 120, pool):
                conditions = some_conditions(steps, table[0], pool, 3)
                for question in (("rows", conditions), (steps.one_of(words), steps.one_of(table[0]), conditions)):
                    with self.subTest(table=table, question=question):
                        self.assertEqual(ask(answer, table, question), answered(table, question))


class AnswerRefusedTest(unittest.TestCase):
    DEEDS = ((answer, SALES), (answer, (SALES[0], ())), (answer_wide, WIDE), (answer_wide, WIDE[:4] + ((),)))

    def test_no_column_the_questions_ahead_of_the_conditions(self):
        for deed, asked in self.DEEDS:
            for question, name in (
                    (("sum", "x", []), "x"), (("all", "x", []), "x"), (("all", "", []), ""),
                    (("sum", "x", [("y", "is", 1)]), "x"), (("sum", "sold", [("y", "is", 1)]), "y"),
                    (("rows", [("town", "is", 1), ("y", "is", 1), ("x", "is", 1)]), "y"),
                    (("no", "x", []), "x"), (("no", "sold", [("year", "no", 1), ("y", "no", 1)]), "y"),
                    (("no", [("y", "no", 1)]), "y"), (("rows", [("town", "no", 1), ("y", "is", 1)]), "y")):
                with self.subTest(deed=deed.__name__, question=question):
                    told = refusal(deed, asked, question)
                    self.assertIs(type(told), NoColumn)
                    self.assertEqual(told.name, name)

    def test_bad_way(self):
        for deed, asked in self.DEEDS:
            for question in (
                    ("no", "sold", []), ("", "sold", []), ("Sum", "sold", []), ("All", "sold", []), ("Rows", []),
                    ("no", []), ("sum", []), ("all", []), ("rows", "sold", []), ("is", "sold", []),
                    ("no", "sold", [("town", "is", "Bonn")]), ("sum", "sold", [("town", "no", "Bonn")]),
                    ("rows", [("town", "no", 1)]), ("all", "sold", [("town", "is", "Bonn"), ("year", "", 1)]),
                    ("no", "sold", [("town", "no", 1)])):
                with self.subTest(deed=deed.__name__, question=question):
                    self.assertIs(type(refusal(deed, asked, question)), BadWay)

    def test_no_number(self):
        self.assertIs(type(refusal(answer, SALES, ("sum", "sold", []))), NoNumber)
        self.assertIs(type(refusal(answer, SALES, ("sum", "town", [("year", "is", 1)]))), NoNumber)
        self.assertIs(type(refusal(answer, SALES, ("sum", "sold", [("town", "no", 1)]))), BadWay)
        self.assertIs(type(refusal(answer_wide, WIDE, ("sum", "note", []))), NoNumber)
        self.assertIs(type(refusal(answer_wide, WIDE, ("sum", "town", []))), NoNumber)

    def test_texts_in_other_rows_are_no_matter(self):
        self.assertEqual(ask(answer, SALES, ("sum", "sold", [("sold", "not", "9")])), 25)
        self.assertEqual(ask(answer, SALES, ("sum", "year", [("year", "below", "")])), 9)


class AnswerWideTest(unittest.TestCase):
    def test_questions(self):
        for question, wanted in (
                (("rows", []), [("Ulm", 2, 10, "b"), ("Ulm", 1, 9, None), ("Linz", 1, None, ""), ("Linz", None, 10, "a")]),
                (("rows", [("sold", "is", 10)]), [("Ulm", 2, 10, "b"), ("Linz", None, 10, "a")]),
                (("all", "town", []), ["Linz", "Ulm"]), (("all", "year", []), [None, 1, 2]),
                (("sum", "sold", []), 29), (("sum", "sold", [("year", "is", 1)]), 9), (("count", "note", []), 3),
                (("first", "note", []), "b"), (("last", "note", []), "a"), (("least", "note", []), ""),
                (("unlike", "sold", []), 2), (("sum", "sold", [("town", "is", "Aue")]), None)):
            with self.subTest(question=question):
                self.assertEqual(ask(answer_wide, WIDE, question), wanted)

    def test_gaps_alone_or_nothing(self):
        for wide in (WIDE[:4] + ((),), WIDE[:3] + ((), ()), WIDE[:4] + (((("Ulm",), (None, None, None)),),)):
            self.assertEqual(ask(answer_wide, wide, ("rows", [])), [])
            self.assertEqual(ask(answer_wide, wide, ("all", "town", [])), [])
            self.assertIsNone(ask(answer_wide, wide, ("count", "town", [])))

    def test_many_folded_tables(self):
        for steps, wide in some_wides(55, 150, VALUES):
            conditions = some_conditions(steps, wide[0] + wide[1] + wide[2], VALUES, 3)
            word = steps.one_of(("first", "last", "count", "least", "greatest", "unlike", "all"))
            for question in (("rows", conditions), (word, steps.one_of(wide[0] + wide[1] + wide[2]), conditions)):
                with self.subTest(wide=wide, question=question):
                    self.assertEqual(ask(answer_wide, wide, question), answered(unfolded(wide), question))

    def test_a_question_is_answered_of_a_folded_table_as_of_its_rows(self):
        # All but first and last, which go by the order of rows, and folding may change that.
        for steps, table, key, names, values in some_cases(56, 150, NUMBERS + (None,)):
            table = without_doubles(table, key + names)
            wide = folded(table, key, names, values, steps.one_of(("seen", "rising")))
            conditions = some_conditions(steps, table[0], NUMBERS + (None,), 3)
            for word in ("sum", "count", "least", "greatest", "unlike", "all"):
                question = (word, steps.one_of(table[0]), conditions)
                with self.subTest(table=table, key=key, names=names, question=question):
                    self.assertEqual(ask(answer_wide, wide, question), answer(table, question))
            columns = wide[0] + wide[1] + wide[2]
            rows = [tuple(row[table[0].index(name)] for name in columns) for row in answer(table, ("rows", conditions))]
            self.assertEqual(rising(answer_wide(wide, ("rows", conditions))), rising(rows))
            self.assertEqual(len(cells_where(wide, conditions)), len(rows))


if __name__ == "__main__":
    unittest.main()
