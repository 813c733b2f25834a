"""Columns moved between key and heads, and folded tables within one ([1], [2], [3], [13], [14])."""

import unittest

from pivotfold.errors import BadColumns, NoColumn
from pivotfold.folding import cell, emptied, folded, is_wide, unfolded
from pivotfold.moving import nested, to_head, to_key, turned, unnested
from tests.helper import BIG, VALUES, ask, refusal, some_cases, some_wides, unlike, without_doubles

WIDE = (
    ("land", "town"), ("year",), ("sold", "note"),
    ((2,), (1,), (3,)),
    (
        (("de", "Ulm"), ((10, "b"), None, None)),
        (("at", "Linz"), (None, (None, ""), None)),
        (("ch", "Chur"), (None, None, None)),
        (("de", "Aue"), ((7, None), (9, 9), None)),
    ),
)
NO_ROWS = (("k", "l"), ("n",), ("v",), ((1,), (2,)), ())
NO_HEADS = (("k", "l"), ("n",), ("v",), (), (((1, 2), ()), ((2, 2), ())))
ALL_GAPS = (("k", "l"), ("n",), ("v",), ((1,), (2,)), (((1, 2), (None, None)), ((2, 2), (None, None))))
NOTHING = (("k", "l"), ("n",), ("v",), (), ())
ONE = ((), (), ("v",), ((),), (((), ((3,),)),))


def cells_by_names(wide):
    """A cell for each way of naming its place, whatever stands in the key and whatever in the names."""
    told = {}
    for part, cells in wide[4]:
        for head, each in zip(wide[3], cells):
            if each is not None:
                told[frozenset(zip(wide[0] + wide[1], part + head))] = each
    return told


class TurnedTest(unittest.TestCase):
    def test_to_other_places(self):
        self.assertEqual(
            ask(turned, WIDE, ["year"], ["town", "land"]),
            (("year",), ("town", "land"), ("sold", "note"),
             (("Ulm", "de"), ("Linz", "at"), ("Aue", "de")),
             (((2,), ((10, "b"), None, (7, None))), ((1,), (None, (None, ""), (9, 9))))))
        self.assertEqual(
            ask(turned, WIDE, ["town"], ["land", "year"]),
            (("town",), ("land", "year"), ("sold", "note"),
             (("de", 2), ("at", 1), ("de", 1)),
             ((("Ulm",), ((10, "b"), None, None)), (("Linz",), (None, (None, ""), None)),
              (("Aue",), ((7, None), None, (9, 9))))))

    def test_all_columns_to_one_side(self):
        self.assertEqual(
            ask(turned, WIDE, ["town", "year", "land"], []),
            (("town", "year", "land"), (), ("sold", "note"), ((),),
             ((("Ulm", 2, "de"), ((10, "b"),)), (("Linz", 1, "at"), ((None, ""),)),
              (("Aue", 2, "de"), ((7, None),)), (("Aue", 1, "de"), ((9, 9),)))))
        self.assertEqual(
            ask(turned, WIDE, [], ["land", "town", "year"]),
            ((), ("land", "town", "year"), ("sold", "note"),
             (("de", "Ulm", 2), ("at", "Linz", 1), ("de", "Aue", 2), ("de", "Aue", 1)),
             (((), ((10, "b"), (None, ""), (7, None), (9, 9))),)))

    def test_to_the_same_places_rows_and_heads_of_gaps_alone_go(self):
        self.assertEqual(ask(turned, WIDE, ["land", "town"], ["year"]), emptied(WIDE))

    def test_as_first_seen_not_rising(self):
        wide = (("k",), ("n",), ("v",), ((1,), (2,)), (((9,), (None, (1,))), ((5,), ((2,), (3,)))))
        self.assertEqual(ask(turned, wide, ["k"], ["n"]),
                         (("k",), ("n",), ("v",), ((2,), (1,)), (((9,), ((1,), None)), ((5,), ((3,), (2,))))))

    def test_gaps_alone_or_nothing(self):
        for wide in (NO_ROWS, NO_HEADS, ALL_GAPS, NOTHING):
            for key, names in ((["k", "l"], ["n"]), (["n"], ["l", "k"]), ([], ["k", "l", "n"]), (["n", "k", "l"], [])):
                self.assertEqual(ask(turned, wide, key, names), (tuple(key), tuple(names), ("v",), (), ()))

    def test_no_columns_of_key_and_names(self):
        self.assertEqual(ask(turned, ONE, [], []), ONE)
        self.assertEqual(ask(turned, ((), (), ("v",), ((),), (((), (None,)),)), [], []), ((), (), ("v",), (), ()))

    def test_tuples_may_be_handed_in_and_lists_are_not_kept(self):
        key, names = ["year"], ["town", "land"]
        told = turned(WIDE, key, names)
        self.assertEqual(ask(turned, WIDE, tuple(key), tuple(names)), told)
        key.clear()
        names.append("x")
        self.assertEqual(told[:2], (("year",), ("town", "land")))

    def test_bad_columns(self):
        for key, names in (
                ([], []), (["land"], ["town"]), (["land", "town"], []), (["land", "town", "year"], ["year"]),
                (["land", "land"], ["year"]), (["land", "town"], ["land"]), (["land", "town"], ["year", "year"]),
                (["land", "town"], ["sold"]), (["land", "town", "sold"], ["year"]), (["land", "town"], ["year", "note"]),
                (["land", "town", "sold"], ["year", "note"]), (["land", "town"], ["years"]), (["Land", "town"], ["year"]),
                (["land", ""], ["year"]), (["land", "town", "x"], ["year"])):
            for kind in (list, tuple):
                for wide in (WIDE, WIDE[:4] + ((),), WIDE[:3] + ((), ())):
                    with self.subTest(key=key, names=names):
                        self.assertIs(type(refusal(turned, wide, kind(key), kind(names))), BadColumns)

    def test_sixty_parts_and_heads_of_twelve_columns(self):
        heads = tuple((number, -number) for number in range(60))
        rows = tuple(((number, BIG), tuple((number * 60 + head,) * 8 for head in range(60))) for number in range(60))
        wide = (("a", "b"), ("c", "d"), tuple("efghijkl"), heads, rows)
        told = ask(turned, wide, ["c", "d"], ["a", "b"])
        self.assertEqual(told[3], tuple((number, BIG) for number in range(60)))
        self.assertEqual(told[4][7], ((7, -7), tuple((number * 60 + 7,) * 8 for number in range(60))))
        self.assertEqual(ask(turned, told, ["a", "b"], ["c", "d"]), wide)

    def test_many_folded_tables(self):
        for steps, wide in some_wides(41, 200, VALUES):
            columns = steps.mixed(wide[0] + wide[1])
            many = steps.below(len(columns) + 1)
            key, names = columns[:many], columns[many:]
            with self.subTest(wide=wide, key=key, names=names):
                told = ask(turned, wide, key, names)
                self.assertIs(is_wide(told), True)
                self.assertEqual(told[:3], (tuple(key), tuple(names), wide[2]))
                self.assertEqual(told, folded(unfolded(wide), key, names, wide[2], "seen"))
                self.assertEqual(cells_by_names(told), cells_by_names(wide))
                rows = [dict(zip(wide[0] + wide[1], part + head)) for part, cells in wide[4]
                        for head, each in zip(wide[3], cells) if each is not None]
                self.assertEqual([part for part, _ in told[4]], unlike(tuple(row[name] for name in key) for row in rows))
                self.assertEqual(list(told[3]), unlike(tuple(row[name] for name in names) for row in rows))

    def test_a_column_moved_leaves_what_folding_the_rows_so_would(self):
        moved = 0
        for steps, table, key, names, values in some_cases(42, 150, VALUES):
            table = without_doubles(table, key + names)
            wide = folded(table, key, names, values, steps.one_of(("seen", "rising")))
            for name in key + names:
                moved += 1
                if name in key:
                    told = ask(to_head, wide, name)
                    asked = [each for each in key if each != name], names + [name]
                else:
                    told = ask(to_key, wide, name)
                    asked = key + [name], [each for each in names if each != name]
                with self.subTest(table=table, key=key, names=names, values=values, name=name):
                    again = folded(table, asked[0], asked[1], values, "seen")
                    self.assertEqual(told[:3], again[:3])
                    self.assertEqual(sorted(map(repr, told[3])), sorted(map(repr, again[3])))
                    self.assertEqual(len(told[4]), len(again[4]))
                    for part, _ in again[4]:
                        for head in again[3]:
                            self.assertEqual(cell(told, part, head), cell(again, part, head))
        self.assertGreater(moved, 100)


class ToHeadTest(unittest.TestCase):
    def test_the_last_of_names_now(self):
        self.assertEqual(
            ask(to_head, WIDE, "town"),
            (("land",), ("year", "town"), ("sold", "note"),
             ((2, "Ulm"), (1, "Linz"), (2, "Aue"), (1, "Aue")),
             ((("de",), ((10, "b"), None, (7, None), (9, 9))), (("at",), (None, (None, ""), None, None)))))
        self.assertEqual(
            ask(to_head, WIDE, "land"),
            (("town",), ("year", "land"), ("sold", "note"),
             ((2, "de"), (1, "at"), (1, "de")),
             ((("Ulm",), ((10, "b"), None, None)), (("Linz",), (None, (None, ""), None)),
              (("Aue",), ((7, None), None, (9, 9))))))

    def test_the_only_column_of_the_key(self):
        wide = (("k",), (), ("v",), ((),), (((2,), ((5,),)), ((1,), (None,)), ((0,), ((6,),))))
        self.assertEqual(ask(to_head, wide, "k"), ((), ("k",), ("v",), ((2,), (0,)), (((), ((5,), (6,))),)))

    def test_gaps_alone_or_nothing(self):
        for wide in (NO_ROWS, NO_HEADS, ALL_GAPS, NOTHING):
            self.assertEqual(ask(to_head, wide, "k"), (("l",), ("n", "k"), ("v",), (), ()))

    def test_no_column(self):
        for name in ("year", "sold", "note", "x", "", "lan", "Land", "land "):
            for wide in (WIDE, WIDE[:4] + ((),)):
                with self.subTest(name=name):
                    told = refusal(to_head, wide, name)
                    self.assertIs(type(told), NoColumn)
                    self.assertEqual(told.name, name)
        self.assertEqual(refusal(to_head, ONE, "v").name, "v")


class ToKeyTest(unittest.TestCase):
    def test_the_last_of_the_key_now(self):
        self.assertEqual(
            ask(to_key, WIDE, "year"),
            (("land", "town", "year"), (), ("sold", "note"), ((),),
             ((("de", "Ulm", 2), ((10, "b"),)), (("at", "Linz", 1), ((None, ""),)),
              (("de", "Aue", 2), ((7, None),)), (("de", "Aue", 1), ((9, 9),)))))

    def test_one_of_several(self):
        wide = (("k",), ("m", "n"), ("v",), ((1, 1), (1, 2), (2, 1)), (((0,), ((5,), (6,), None)), ((1,), (None, (7,), (8,)))))
        self.assertEqual(
            ask(to_key, wide, "m"),
            (("k", "m"), ("n",), ("v",), ((1,), (2,)),
             (((0, 1), ((5,), (6,))), ((1, 1), (None, (7,))), ((1, 2), ((8,), None)))))
        self.assertEqual(
            ask(to_key, wide, "n"),
            (("k", "n"), ("m",), ("v",), ((1,), (2,)),
             (((0, 1), ((5,), None)), ((0, 2), ((6,), None)), ((1, 2), ((7,), None)), ((1, 1), (None, (8,))))))

    def test_gaps_alone_or_nothing(self):
        for wide in (NO_ROWS, NO_HEADS, ALL_GAPS, NOTHING):
            self.assertEqual(ask(to_key, wide, "n"), (("k", "l", "n"), (), ("v",), (), ()))

    def test_no_column(self):
        for name in ("land", "town", "sold", "note", "x", "", "yea", "YEAR"):
            for wide in (WIDE, WIDE[:4] + ((),)):
                with self.subTest(name=name):
                    told = refusal(to_key, wide, name)
                    self.assertIs(type(told), NoColumn)
                    self.assertEqual(told.name, name)
        self.assertEqual(refusal(to_key, ONE, "v").name, "v")

    def test_there_and_back_has_the_same_cells(self):
        for _, wide in some_wides(43, 80, VALUES):
            for name in wide[0]:
                self.assertEqual(cells_by_names(ask(to_key, to_head(wide, name), name)), cells_by_names(wide))
            for name in wide[1]:
                self.assertEqual(cells_by_names(ask(to_head, to_key(wide, name), name)), cells_by_names(wide))


class NestedTest(unittest.TestCase):
    def test_by_first_sight(self):
        self.assertEqual(ask(nested, WIDE, 1), (
            (("de",), (("town",), ("year",), ("sold", "note"), WIDE[3],
                       ((("Ulm",), ((10, "b"), None, None)), (("Aue",), ((7, None), (9, 9), None))))),
            (("at",), (("town",), ("year",), ("sold", "note"), WIDE[3], ((("Linz",), (None, (None, ""), None)),))),
            (("ch",), (("town",), ("year",), ("sold", "note"), WIDE[3], ((("Chur",), (None, None, None)),))),
        ))

    def test_none_and_all_of_the_key(self):
        self.assertEqual(ask(nested, WIDE, 0), (((), WIDE),))
        self.assertEqual(ask(nested, WIDE, 2), tuple(
            (part, ((), ("year",), ("sold", "note"), WIDE[3], (((), cells),))) for part, cells in WIDE[4]))

    def test_without_rows_or_heads(self):
        for deep in (0, 1, 2):
            self.assertEqual(ask(nested, NO_ROWS, deep), ())
            self.assertEqual(ask(nested, NOTHING, deep), ())
        self.assertEqual(ask(nested, NO_HEADS, 1), (
            ((1,), (("l",), ("n",), ("v",), (), (((2,), ()),))), ((2,), (("l",), ("n",), ("v",), (), (((2,), ()),)))))

    def test_no_columns_of_key(self):
        self.assertEqual(ask(nested, ONE, 0), (((), ONE),))

    def test_values_of_unlike_kinds_begin_unlike(self):
        wide = (("k", "l"), (), ("v",), ((),), tuple(((first, 1), ((5,),)) for first in (0, "0", None, "")))
        self.assertEqual([first for first, _ in ask(nested, wide, 1)], [(0,), ("0",), (None,), ("",)])

    def test_sixty_rows(self):
        rows = tuple(((number % 7, number), ((BIG,),)) for number in range(60))
        told = ask(nested, (("a", "b"), (), ("v",), ((),), rows), 1)
        self.assertEqual([first for first, _ in told], [(number,) for number in range(7)])
        self.assertEqual(told[3][1][4], tuple(((number,), ((BIG,),)) for number in range(3, 60, 7)))

    def test_many_folded_tables(self):
        for _, wide in some_wides(44, 150, VALUES[:4]):
            for deep in range(len(wide[0]) + 1):
                with self.subTest(wide=wide, deep=deep):
                    told = ask(nested, wide, deep)
                    self.assertIs(type(told), tuple)
                    self.assertEqual([first for first, _ in told], unlike(part[:deep] for part, _ in wide[4]))
                    for first, rest in told:
                        self.assertIs(is_wide(rest), True)
                        self.assertEqual(rest[:4], (wide[0][deep:],) + wide[1:4])
                        self.assertEqual(rest[4], tuple((part[deep:], cells) for part, cells in wide[4]
                                                        if part[:deep] == first))


class UnnestedTest(unittest.TestCase):
    def test_pair_by_pair_row_by_row(self):
        rows = (WIDE[4][0], WIDE[4][3], WIDE[4][1], WIDE[4][2])
        self.assertEqual(ask(unnested, nested(WIDE, 1), ["land"]), WIDE[:4] + (rows,))
        for deep in (0, 2):
            self.assertEqual(ask(unnested, nested(WIDE, deep), list(WIDE[0][:deep])), WIDE)

    def test_pairs_in_another_order(self):
        nest = tuple(reversed(nested(WIDE, 1)))
        rows = (WIDE[4][2], WIDE[4][1], WIDE[4][0], WIDE[4][3])
        self.assertEqual(ask(unnested, nest, ["land"]), WIDE[:4] + (rows,))

    def test_other_names(self):
        self.assertEqual(ask(unnested, nested(WIDE, 1), ["abcdefgh"])[0], ("abcdefgh", "town"))
        self.assertEqual(ask(unnested, nested(WIDE, 2), ["town", "land"])[0], ("town", "land"))
        self.assertEqual(ask(unnested, nested(WIDE, 2), ["z", "a"])[1:4], WIDE[1:4])

    def test_a_rest_without_rows(self):
        rest = (("l",), ("n",), ("v",), ((1,),), ())
        self.assertEqual(ask(unnested, (((5,), rest),), ["k"]), (("k", "l"), ("n",), ("v",), ((1,),), ()))

    def test_without_heads_and_without_columns(self):
        self.assertEqual(ask(unnested, nested(NO_HEADS, 1), ["k"]), NO_HEADS)
        self.assertEqual(ask(unnested, nested(ONE, 0), []), ONE)

    def test_tuples_may_be_handed_in_and_lists_are_not_kept(self):
        key = ["land"]
        told = unnested(nested(WIDE, 1), key)
        self.assertEqual(ask(unnested, nested(WIDE, 1), tuple(key)), told)
        key.append("x")
        self.assertEqual(told[0], ("land", "town"))

    def test_bad_columns(self):
        for deep, keys in (
                (0, (["land"], ["x"], ["land", "town"])),
                (1, ([], ["land", "x"], ["town"], ["year"], ["sold"], ["note"], [""], ["abcdefghi"], ["Land"], ["a b"],
                     ["l1"], ["a", "a"])),
                (2, ([], ["land"], ["land", "land"], ["land", "year"], ["note", "town"], ["a", "b", "c"], ["a", ""],
                     ["town", "sold"]))):
            for key in keys:
                for kind in (list, tuple):
                    with self.subTest(deep=deep, key=key):
                        self.assertIs(type(refusal(unnested, nested(WIDE, deep), kind(key))), BadColumns)

    def test_no_pair(self):
        for key in ([], ["k"], ["a", "b"]):
            self.assertIs(type(refusal(unnested, (), key)), BadColumns)

    def test_many_folded_tables(self):
        for _, wide in some_wides(45, 150, VALUES[:4]):
            for deep in range(len(wide[0]) + 1):
                if wide[4]:
                    with self.subTest(wide=wide, deep=deep):
                        told = ask(unnested, nested(wide, deep), wide[0][:deep])
                        self.assertIs(is_wide(told), True)
                        self.assertEqual(told[:4], wide[:4])
                        firsts = unlike(part[:deep] for part, _ in wide[4])
                        self.assertEqual(told[4], tuple(row for first in firsts for row in wide[4] if row[0][:deep] == first))


if __name__ == "__main__":
    unittest.main()
