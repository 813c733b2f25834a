"""Folded tables kept while rows come and go ([1], [2], [3], [17])."""

import copy
import unittest

from pivotfold.errors import BadColumns, BadOrder, BadWay, NoNumber, NoRow
from pivotfold.foldby import folded_by, sources
from pivotfold.keeper import Keeper
from tests.helper import BIG, NUMBERS, VALUES, WAYS, Steps, ask, refusal, some_split

COLUMNS = ["town", "year", "sold", "note"]
SPLIT = (["town"], ["year"], ["sold", "note"])


def town_keeper(ways=("sum", "last"), order="seen"):
    return Keeper(COLUMNS, *SPLIT, list(ways), order)


def state(keeper):
    return keeper.wide_now(), keeper.rows_now()


def cells_of(wide):
    return {(part, head): each for part, cells in wide[4] for head, each in zip(wide[3], cells) if each is not None}


def changes_between(old, new):
    before, after = cells_of(old), cells_of(new)
    places = list(before) + [place for place in after if place not in before]
    return [place + (before.get(place), after.get(place)) for place in places if before.get(place) != after.get(place)]


class Model:
    """The rows there are, and those there were ahead of each deed; all else is folded anew."""

    def __init__(self, columns, key, names, values, ways, order):
        self.columns = tuple(columns)
        self.asked = (key, names, values, ways, order)
        self.rows = {}
        self.given = 0
        self.past = []

    def table(self):
        return (self.columns, tuple(self.rows[number] for number in sorted(self.rows)))

    def wide(self):
        return folded_by(self.table(), *self.asked)

    def done(self, rows, given):
        old = self.wide()
        self.rows, self.given = rows, given
        return changes_between(old, self.wide())

    def put_row(self, row):
        self.past.append((self.rows, self.given))
        number = self.given
        return number, self.done({**self.rows, number: row}, number + 1)

    def take_row(self, number):
        self.past.append((self.rows, self.given))
        return self.done({each: row for each, row in self.rows.items() if each != number}, self.given)

    def undo(self):
        return self.done(*self.past.pop()) if self.past else None


class MadeTest(unittest.TestCase):
    def test_without_rows(self):
        for order in ("seen", "rising"):
            keeper = town_keeper(order=order)
            self.assertEqual(ask(keeper.wide_now), (("town",), ("year",), ("sold", "note"), (), ()))
            self.assertEqual(ask(keeper.rows_now), [])
            self.assertEqual(ask(keeper.rows_of, ("Ulm",), (1,)), ())
            self.assertIsNone(keeper.undo())

    def test_tuples_may_be_handed_in(self):
        keeper = Keeper(tuple(COLUMNS), ("town",), ("year",), ("sold", "note"), ("sum", "last"), "seen")
        self.assertEqual(keeper.put_row(("Ulm", 2, 5, None)), (0, [(("Ulm",), (2,), None, (5, None))]))
        self.assertEqual(keeper.wide_now(), (("town",), ("year",), ("sold", "note"), ((2,),), ((("Ulm",), ((5, None),)),)))

    def test_lists_handed_in_are_not_kept(self):
        handed = [list(COLUMNS), ["town"], ["year"], ["sold", "note"], ["sum", "last"]]
        before = copy.deepcopy(handed)
        keeper = Keeper(*handed, "seen")
        self.assertEqual(handed, before)
        for some in handed:
            some.reverse()
            some.append("x")
        keeper.put_row(("Ulm", 2, 5, "a"))
        self.assertEqual(keeper.put_row(("Ulm", 2, 6, "b")), (1, [(("Ulm",), (2,), (5, "a"), (11, "b"))]))
        self.assertEqual(keeper.wide_now(), (("town",), ("year",), ("sold", "note"), ((2,),), ((("Ulm",), ((11, "b"),)),)))

    def test_bad_columns(self):
        for key, names, values in (
                (["a"], ["b"], []), ([], [], []), (["a"], [], ["c"]), (["a", "a"], ["b"], ["c"]), (["a"], ["b"], ["c", "a"]),
                (["a"], ["b"], ["d"]), (["a"], ["b", "d"], ["c"]), (["a"], ["a"], ["c"]), (["A"], ["b"], ["c"])):
            for kind in (list, tuple):
                for ways, order in ((["sum"], "seen"), (["no"], "no"), ([], "falling")):
                    with self.subTest(key=key, names=names, values=values):
                        told = refusal(Keeper, kind("abc"), kind(key), kind(names), kind(values), ways, order)
                        self.assertIs(type(told), BadColumns)

    def test_a_column_that_is_there_twice(self):
        self.assertIs(type(refusal(Keeper, ["a", "a"], ["a"], [], ["a"], ["sum"], "seen")), BadColumns)

    def test_bad_order(self):
        for order in ("", "falling", "Seen", "told", ("told", []), None):
            for ways in (["sum"], ["no"], []):
                self.assertIs(type(refusal(Keeper, ["a", "b", "c"], ["a"], ["b"], ["c"], ways, order)), BadOrder)

    def test_bad_way(self):
        for ways in (["no"], [], ["sum", "sum"], ["Sum"], ["all"]):
            for order in ("seen", "rising"):
                self.assertIs(type(refusal(Keeper, ["a", "b", "c"], ["a"], ["b"], ["c"], ways, order)), BadWay)


class PutRowTest(unittest.TestCase):
    def test_numbers_and_changes(self):
        keeper = town_keeper()
        for row, wanted in (
                (("Ulm", 2, 10, "b"), (0, [(("Ulm",), (2,), None, (10, "b"))])),
                (("Aue", 1, None, "x"), (1, [(("Aue",), (1,), None, (0, "x"))])),
                (("Ulm", 2, 5, None), (2, [(("Ulm",), (2,), (10, "b"), (15, None))])),
                (("Ulm", 2, None, None), (3, [])),
                (("Ulm", 2, 0, None), (4, [])),
                (("Ulm", 2, -15, "b"), (5, [(("Ulm",), (2,), (15, None), (0, "b"))])),
                (("Ulm", "2", 1, ""), (6, [(("Ulm",), ("2",), None, (1, ""))])),
                ((None, 2, 1, 1), (7, [((None,), (2,), None, (1, 1))]))):
            with self.subTest(row=row):
                told = keeper.put_row(row)
                self.assertEqual(told, wanted)
                self.assertIs(type(told), tuple)
                self.assertIs(type(told[1]), list)
        self.assertEqual(keeper.wide_now(), (
            ("town",), ("year",), ("sold", "note"), ((2,), (1,), ("2",)),
            ((("Ulm",), ((0, "b"), None, (1, ""))), (("Aue",), (None, (0, "x"), None)), ((None,), ((1, 1), None, None)))))

    def test_a_cell_is_otherwise_where_one_kind_becomes_another(self):
        keeper = town_keeper(("last", "last"))
        keeper.put_row(("Ulm", 1, 1, None))
        for number, (sold, note, old) in enumerate((("1", None, (1, None)), ("1", 0, ("1", None)), ("1", "0", ("1", 0)),
                                                    ("1", "", ("1", "0")), ("1", None, ("1", ""))), start=1):
            self.assertEqual(keeper.put_row(("Ulm", 1, sold, note)), (number, [(("Ulm",), (1,), old, (sold, note))]))

    def test_a_cell_of_none_is_no_gap(self):
        keeper = town_keeper(("least", "first"))
        self.assertEqual(keeper.put_row(("Ulm", 1, None, None)), (0, [(("Ulm",), (1,), None, (None, None))]))
        self.assertEqual(keeper.put_row(("Ulm", 1, None, None)), (1, []))
        self.assertEqual(keeper.take_row(0), [])
        self.assertEqual(keeper.take_row(1), [(("Ulm",), (1,), (None, None), None)])

    def test_heads_rising(self):
        keeper = town_keeper(order="rising")
        for year in (3, "a", None, 1, "", 2):
            keeper.put_row(("Ulm", year, 1, None))
        self.assertEqual(keeper.wide_now()[3], ((None,), (1,), (2,), (3,), ("",), ("a",)))

    def test_no_columns_of_key_or_of_names(self):
        keeper = Keeper(["v"], [], [], ["v"], ["sum"], "seen")
        self.assertEqual(keeper.put_row((5,)), (0, [((), (), None, (5,))]))
        self.assertEqual(keeper.put_row((BIG,)), (1, [((), (), (5,), (BIG + 5,))]))
        self.assertEqual(keeper.wide_now(), ((), (), ("v",), ((),), (((), ((BIG + 5,),)),)))
        self.assertEqual(keeper.rows_of((), ()), (0, 1))

    def test_no_number_changes_nothing(self):
        for text in ("", "5", "a"):
            keeper = town_keeper(("sum", "last"))
            keeper.put_row(("Ulm", 1, 4, "a"))
            before = state(keeper)
            for row in (("Ulm", 1, text, "b"), ("Aue", 2, text, None)):
                self.assertIs(type(refusal(keeper.put_row, row)), NoNumber)
                self.assertEqual(state(keeper), before)
                self.assertEqual(keeper.rows_of(("Aue",), (2,)), ())
            self.assertEqual(keeper.put_row(("Ulm", 1, 5, "b"))[0], 1)
            self.assertEqual(keeper.undo(), [(("Ulm",), (1,), (9, "b"), (4, "a"))])
            self.assertEqual(keeper.undo(), [(("Ulm",), (1,), (4, "a"), None)])
            self.assertIsNone(keeper.undo())

    def test_no_number_of_each_column_of_way_sum(self):
        for ways, row, refused in (
                (("sum", "sum"), ("Ulm", 1, 1, "x"), True), (("sum", "sum"), ("Ulm", 1, "x", 1), True),
                (("count", "sum"), ("Ulm", 1, "x", 1), False), (("count", "sum"), ("Ulm", 1, 1, "x"), True),
                (("sum", "least"), ("Ulm", 1, 1, "x"), False), (("sum", "sum"), ("Ulm", 1, None, None), False)):
            keeper = town_keeper(ways)
            with self.subTest(ways=ways, row=row):
                if refused:
                    self.assertIs(type(refusal(keeper.put_row, row)), NoNumber)
                    self.assertEqual(keeper.rows_now(), [])
                    self.assertIsNone(keeper.undo())
                else:
                    self.assertEqual(keeper.put_row(row)[0], 0)

    def test_texts_in_key_and_names_and_by_other_ways(self):
        for way in WAYS:
            if way != "sum":
                keeper = Keeper(["a", "b", "c"], ["a"], ["b"], ["c"], [way], "seen")
                self.assertEqual(keeper.put_row(("x", "y", "z"))[0], 0)


class TakeRowTest(unittest.TestCase):
    def filled(self):
        keeper = town_keeper()
        for row in (("Ulm", 2, 10, "b"), ("Aue", 1, 3, "x"), ("Ulm", 2, 5, "a"), ("Ulm", 1, None, None)):
            keeper.put_row(row)
        return keeper

    def test_changes(self):
        keeper = self.filled()
        self.assertEqual(keeper.take_row(0), [(("Ulm",), (2,), (15, "a"), (5, "a"))])
        self.assertEqual(keeper.take_row(2), [(("Ulm",), (2,), (5, "a"), None)])
        self.assertEqual(keeper.wide_now(), (
            ("town",), ("year",), ("sold", "note"), ((1,),), ((("Aue",), ((3, "x"),)), (("Ulm",), ((0, None),)))))
        self.assertEqual(keeper.rows_now(), [(1, ("Aue", 1, 3, "x")), (3, ("Ulm", 1, None, None))])

    def test_a_row_that_changes_no_cell(self):
        keeper = self.filled()
        keeper.put_row(("Ulm", 2, 0, "a"))
        self.assertEqual(keeper.take_row(2), [(("Ulm",), (2,), (15, "a"), (10, "a"))])
        keeper.put_row(("Aue", 1, None, "x"))
        self.assertEqual(keeper.take_row(5), [])
        self.assertEqual(keeper.rows_of(("Aue",), (1,)), (1,))

    def test_numbers_of_rows_taken_are_not_given_again(self):
        keeper = self.filled()
        keeper.take_row(3)
        self.assertEqual(keeper.put_row(("Ulm", 1, 1, 1))[0], 4)
        keeper.take_row(4)
        keeper.take_row(0)
        self.assertEqual(keeper.put_row(("Ulm", 1, 1, 1))[0], 5)
        self.assertEqual([number for number, _ in keeper.rows_now()], [1, 2, 5])

    def test_no_row(self):
        keeper = self.filled()
        keeper.take_row(1)
        before = state(keeper)
        for number in (1, 4, 5, -1, 60, BIG, -BIG):
            with self.subTest(number=number):
                self.assertIs(type(refusal(keeper.take_row, number)), NoRow)
                self.assertEqual(state(keeper), before)
        self.assertEqual(keeper.undo(), [(("Aue",), (1,), None, (3, "x"))])
        self.assertIs(type(refusal(town_keeper().take_row, 0)), NoRow)

    def test_parts_and_heads_as_first_seen_in_the_rows_left(self):
        keeper = self.filled()
        keeper.take_row(0)
        self.assertEqual([part for part, _ in keeper.wide_now()[4]], [("Aue",), ("Ulm",)])
        self.assertEqual(keeper.wide_now()[3], ((1,), (2,)))
        keeper.put_row(("Ulm", 2, 1, 1))
        keeper.undo()
        keeper.undo()
        self.assertEqual([part for part, _ in keeper.wide_now()[4]], [("Ulm",), ("Aue",)])
        self.assertEqual(keeper.wide_now()[3], ((2,), (1,)))


class UndoTest(unittest.TestCase):
    def test_a_put_is_taken_back_and_its_number_given_again(self):
        keeper = town_keeper()
        keeper.put_row(("Ulm", 2, 10, "b"))
        keeper.put_row(("Ulm", 2, 1, "c"))
        told = keeper.undo()
        self.assertEqual(told, [(("Ulm",), (2,), (11, "c"), (10, "b"))])
        self.assertIs(type(told), list)
        self.assertEqual(keeper.rows_now(), [(0, ("Ulm", 2, 10, "b"))])
        self.assertEqual(keeper.put_row(("Aue", 1, 1, 1)), (1, [(("Aue",), (1,), None, (1, 1))]))
        self.assertEqual(keeper.undo(), [(("Aue",), (1,), (1, 1), None)])
        self.assertEqual(keeper.undo(), [(("Ulm",), (2,), (10, "b"), None)])
        self.assertIsNone(keeper.undo())
        self.assertIsNone(keeper.undo())
        self.assertEqual(keeper.put_row(("Aue", 1, 1, 1))[0], 0)

    def test_a_take_is_taken_back_to_its_place(self):
        keeper = town_keeper(("first", "last"))
        for note in "abc":
            keeper.put_row(("Ulm", 1, note, note))
        self.assertEqual(keeper.take_row(0), [(("Ulm",), (1,), ("a", "c"), ("b", "c"))])
        self.assertEqual(keeper.undo(), [(("Ulm",), (1,), ("b", "c"), ("a", "c"))])
        self.assertEqual(keeper.rows_now(), [(number, ("Ulm", 1, note, note)) for number, note in enumerate("abc")])
        self.assertEqual(keeper.rows_of(("Ulm",), (1,)), (0, 1, 2))
        self.assertEqual(keeper.put_row(("Ulm", 1, "d", "d"))[0], 3)

    def test_deeds_that_changed_no_cell_are_undone_too(self):
        keeper = town_keeper()
        keeper.put_row(("Ulm", 1, 1, "a"))
        keeper.put_row(("Ulm", 1, 0, "a"))
        keeper.take_row(1)
        self.assertEqual(keeper.undo(), [])
        self.assertEqual(len(keeper.rows_now()), 2)
        self.assertEqual(keeper.undo(), [])
        self.assertEqual(len(keeper.rows_now()), 1)
        self.assertEqual(keeper.undo(), [(("Ulm",), (1,), (1, "a"), None)])
        self.assertIsNone(keeper.undo())

    def test_a_row_put_taken_and_undone_step_by_step(self):
        keeper = town_keeper()
        keeper.put_row(("Ulm", 1, 1, "a"))
        keeper.take_row(0)
        self.assertEqual(keeper.put_row(("Aue", 1, 2, "b"))[0], 1)
        keeper.undo()
        self.assertEqual(keeper.put_row(("Aue", 1, 2, "b"))[0], 1)
        keeper.undo()
        self.assertEqual(keeper.undo(), [(("Ulm",), (1,), None, (1, "a"))])
        self.assertEqual(keeper.rows_now(), [(0, ("Ulm", 1, 1, "a"))])
        self.assertEqual(keeper.undo(), [(("Ulm",), (1,), (1, "a"), None)])
        self.assertEqual(keeper.put_row(("Ulm", 1, 1, "a"))[0], 0)

    def test_what_was_undone_is_not_done_again(self):
        keeper = town_keeper()
        for number in range(3):
            keeper.put_row(("Ulm", number, 1, "a"))
        keeper.undo()
        keeper.undo()
        keeper.put_row(("Aue", 9, 1, "a"))
        self.assertEqual(keeper.undo(), [(("Aue",), (9,), (1, "a"), None)])
        self.assertEqual(keeper.undo(), [(("Ulm",), (0,), (1, "a"), None)])
        self.assertIsNone(keeper.undo())


class ToldTest(unittest.TestCase):
    def test_what_is_told_is_the_askers_own(self):
        keeper = town_keeper()
        keeper.put_row(("Ulm", 1, 1, "a"))
        changes = keeper.put_row(("Ulm", 1, 1, "b"))[1]
        changes.append(1)
        rows = keeper.rows_now()
        rows.clear()
        self.assertEqual(keeper.rows_now(), [(0, ("Ulm", 1, 1, "a")), (1, ("Ulm", 1, 1, "b"))])
        taken = keeper.take_row(0)
        taken.append(2)
        undone = keeper.undo()
        self.assertEqual(undone, [(("Ulm",), (1,), (1, "b"), (2, "b"))])
        undone.clear()
        self.assertEqual(keeper.undo(), [(("Ulm",), (1,), (2, "b"), (1, "a"))])
        self.assertEqual(keeper.wide_now()[4], ((("Ulm",), ((1, "a"),)),))

    def test_asking_changes_nothing(self):
        keeper = town_keeper()
        keeper.put_row(("Ulm", 1, 1, "a"))
        for _ in range(2):
            ask(keeper.wide_now)
            ask(keeper.rows_now)
            ask(keeper.rows_of, ("Ulm",), (1,))
            ask(keeper.rows_of, ("Bonn",), (7,))
        self.assertEqual(keeper.wide_now()[3:], (((1,),), ((("Ulm",), ((1, "a"),)),)))
        self.assertEqual(keeper.put_row(("Ulm", 1, 1, "b"))[0], 1)

    def test_rows_of(self):
        keeper = town_keeper()
        for row in (("Ulm", 2, 1, 1), ("Aue", 2, 1, 1), ("Ulm", 2, 1, 1), ("Ulm", 1, 1, 1), ("Ulm", 2, 1, 1)):
            keeper.put_row(row)
        self.assertEqual(keeper.rows_of(("Ulm",), (2,)), (0, 2, 4))
        self.assertIs(type(keeper.rows_of(("Ulm",), (2,))), tuple)
        keeper.take_row(2)
        self.assertEqual(keeper.rows_of(("Ulm",), (2,)), (0, 4))
        keeper.take_row(0)
        keeper.undo()
        self.assertEqual(keeper.rows_of(("Ulm",), (2,)), (0, 4))
        for part, head in ((("Aue",), (1,)), (("Bonn",), (2,)), (("Ulm",), ("2",)), (("Ulm",), (3,)), ((), ()),
                           ((2,), ("Ulm",)), (("Ulm", 2), ())):
            self.assertEqual(keeper.rows_of(part, head), ())


class ManyDeedsTest(unittest.TestCase):
    def made(self, steps, pool):
        columns = tuple("abcdefgh"[:1 + steps.below(5)])
        key, names, values = some_split(steps, (columns, ()))
        ways_here = [way for way in WAYS if way != "sum" or pool is not VALUES]
        asked = (columns, key, names, values, [steps.one_of(ways_here) for _ in values], steps.one_of(("seen", "rising")))
        return Keeper(*asked), Model(*asked)

    def step(self, steps, keeper, model, pool):
        choice = steps.below(8)
        if choice < 4 and len(model.rows) < 12:
            row = tuple(steps.one_of(pool) for _ in model.columns)
            self.assertEqual(keeper.put_row(row), model.put_row(row))
        elif choice < 6 and model.rows:
            number = steps.one_of(sorted(model.rows))
            told = keeper.take_row(number)
            self.assertEqual(told, model.take_row(number))
            self.assertLessEqual(len(told), 1)
            self.assertIs(type(refusal(keeper.take_row, number)), NoRow)
        else:
            self.assertEqual(keeper.undo(), model.undo())
        self.compare(keeper, model)

    def compare(self, keeper, model):
        wide = keeper.wide_now()
        self.assertEqual(wide, model.wide())
        self.assertEqual(keeper.rows_now(), sorted(model.rows.items()))
        numbers = sorted(model.rows)
        key, names, _, _, order = model.asked
        for (part, _), told in zip(wide[4], sources(model.table(), key, names, order)):
            for head, places in zip(wide[3], told):
                self.assertEqual(keeper.rows_of(part, head), tuple(numbers[place] for place in places))

    def test_what_is_kept_is_what_folding_all_anew_would_be(self):
        for pool, start in ((VALUES, 61), (NUMBERS + (None,), 62)):
            steps = Steps(start)
            for _ in range(40):
                few = [steps.one_of(pool) for _ in range(2 + steps.below(3))]
                keeper, model = self.made(steps, pool)
                for _ in range(30):
                    self.step(steps, keeper, model, few)
                while model.past:
                    self.assertEqual(keeper.undo(), model.undo())
                self.compare(keeper, model)
                self.assertIsNone(keeper.undo())

    def test_two_keepers_by_turns_tell_each_what_it_would_alone(self):
        steps = Steps(63)
        for _ in range(20):
            pairs = [self.made(steps, NUMBERS), self.made(steps, NUMBERS)]
            asked = (pairs[0][1].columns,) + pairs[0][1].asked
            pairs.append((Keeper(*asked), Model(*asked)))
            for _ in range(60):
                keeper, model = steps.one_of(pairs)
                self.step(steps, keeper, model, (0, 1, -1))
                for keeper, model in pairs:
                    self.compare(keeper, model)

    def test_sixty_rows_of_twelve_columns(self):
        columns = tuple("abcdefghijkl")
        asked = (columns, columns[:2], columns[2:4], columns[4:], ("sum",) * 8, "rising")
        keeper, model = Keeper(*asked), Model(*asked)
        for number in range(60):
            row = (number % 5, "x", number % 3, None) + (BIG,) * 7 + (number,)
            self.assertEqual(keeper.put_row(row), model.put_row(row))
        self.compare(keeper, model)
        for number in range(0, 60, 2):
            self.assertEqual(keeper.take_row(number), model.take_row(number))
        self.compare(keeper, model)
        for _ in range(90):
            self.assertEqual(keeper.undo(), model.undo())
        self.assertIsNone(keeper.undo())


if __name__ == "__main__":
    unittest.main()
