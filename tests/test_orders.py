"""Heads and parts in other orders, and both exchanged ([2], [3], [12])."""

import unittest

from pivotfold.errors import BadOrder, NoColumn, NoHead
from pivotfold.folding import cell, is_wide, unfolded
from pivotfold.orders import exchanged, heads_in, parts_by, parts_in
from tests.helper import BIG, VALUES, ask, compared, refusal, rising, some_wides

WIDE = (
    ("k",), ("n", "m"), ("v", "w"),
    ((2, "b"), (None, 5), (2, "a"), ("", None)),
    (
        (("b",), ((1, 4), None, (None, 2), None)),
        ((3,), ((None, None), (7, "x"), None, ("a", 1))),
        ((None,), (None, (7, 0), (5, 2), None)),
        (("a",), ((1, "4"), (9, None), None, None)),
    ),
)
NO_ROWS = (("k",), ("n",), ("v",), ((2,), (1,)), ())
NO_HEADS = (("k",), ("n",), ("v",), (), (((2,), ()), ((1,), ())))
NOTHING = (("k",), ("n",), ("v",), (), ())
ONE = ((), (), ("v",), ((),), (((), ((3,),)),))

WRONG_ORDERS = (
    "", "told", "Rising", "rising ", "fallen", "first", None, 0, (), ("told",), ("told", [], []), ("seen",),
    ("told", None), ("told", "ab"), ("told", ""), ("told", 1), ("told", "rising"), ["told", [(1,)]], ["rising"],
    ("rising", []), ("Told", []), ([], "told"), ("seen", [(1,)]),
)


def picked(wide, heads):
    """The wide one with these heads, built head by head."""
    rows = tuple((part, tuple(cell(wide, part, head) for head in heads)) for part, _ in wide[4])
    return wide[:3] + (tuple(heads), rows)


class HeadsInTest(unittest.TestCase):
    def test_as_they_stand(self):
        self.assertEqual(ask(heads_in, WIDE, "seen"), WIDE)

    def test_rising_and_falling(self):
        told = ask(heads_in, WIDE, "rising")
        self.assertEqual(told[3], ((None, 5), (2, "a"), (2, "b"), ("", None)))
        self.assertEqual(told[4][1], ((3,), ((7, "x"), None, (None, None), ("a", 1))))
        self.assertEqual([part for part, _ in told[4]], [part for part, _ in WIDE[4]])
        told = ask(heads_in, WIDE, "falling")
        self.assertEqual(told[3], (("", None), (2, "b"), (2, "a"), (None, 5)))
        self.assertEqual(told[4][0], (("b",), (None, (1, 4), (None, 2), None)))

    def test_told(self):
        for listed, wanted in (
                ([], WIDE[3]),
                ([(2, "a")], ((2, "a"), (2, "b"), (None, 5), ("", None))),
                ([("", None), (2, "b")], (("", None), (2, "b"), (None, 5), (2, "a"))),
                ([(2, "b"), ("", None)], ((2, "b"), ("", None), (None, 5), (2, "a"))),
                ([(2, "a"), ("", None), (2, "a"), (2, "a")], ((2, "a"), ("", None), (2, "b"), (None, 5))),
                ([(2, "c"), (None, 5), ("2", "b"), ()], ((None, 5), (2, "b"), (2, "a"), ("", None))),
                (list(reversed(WIDE[3])), tuple(reversed(WIDE[3])))):
            with self.subTest(listed=listed):
                told = ask(heads_in, WIDE, ("told", listed))
                self.assertEqual(told, picked(WIDE, wanted))
                self.assertEqual(ask(heads_in, WIDE, ("told", tuple(listed))), told)

    def test_without_rows_or_heads(self):
        self.assertEqual(ask(heads_in, NO_ROWS, "rising"), NO_ROWS[:3] + (((1,), (2,)), ()))
        self.assertEqual(ask(heads_in, NO_ROWS, ("told", [(1,)])), NO_ROWS[:3] + (((1,), (2,)), ()))
        for order in ("seen", "rising", "falling", ("told", [(1,)]), ("told", [()])):
            for wide in (NO_HEADS, NOTHING, ONE):
                self.assertEqual(ask(heads_in, wide, order), wide)

    def test_bad_order(self):
        for order in WRONG_ORDERS:
            for wide in (WIDE, NOTHING, NO_ROWS, NO_HEADS, ONE):
                with self.subTest(order=order):
                    self.assertIs(type(refusal(heads_in, wide, order)), BadOrder)

    def test_many_folded_tables(self):
        for steps, wide in some_wides(31, 120, VALUES):
            some = steps.mixed(wide[3])[:steps.below(4)]
            others = [head for head in wide[3] if head not in some]
            for order, heads in (("seen", wide[3]), ("rising", rising(wide[3])),
                                 ("falling", rising(wide[3])[::-1]), (("told", some + some), some + others)):
                with self.subTest(wide=wide, order=order):
                    told = ask(heads_in, wide, order)
                    self.assertIs(is_wide(told), True)
                    self.assertEqual(told, picked(wide, heads))


class PartsInTest(unittest.TestCase):
    def check(self, order, wanted):
        told = ask(parts_in, WIDE, order)
        self.assertEqual(told, WIDE[:4] + (tuple(WIDE[4][place] for place in wanted),))

    def test_as_they_stand(self):
        self.check("seen", (0, 1, 2, 3))

    def test_rising_and_falling(self):
        self.check("rising", (2, 1, 3, 0))
        self.check("falling", (0, 3, 1, 2))

    def test_told(self):
        for kind in (list, tuple):
            self.check(("told", kind([])), (0, 1, 2, 3))
            self.check(("told", kind([(None,)])), (2, 0, 1, 3))
            self.check(("told", kind([("a",), (3,), ("a",)])), (3, 1, 0, 2))
            self.check(("told", kind([("3",), ("",), (0,), ("a",), "b"])), (3, 0, 1, 2))
            self.check(("told", kind([("a",), (None,), (3,), ("b",)])), (3, 2, 1, 0))

    def test_without_rows_or_heads(self):
        self.assertEqual(ask(parts_in, NO_HEADS, "rising"), NO_HEADS[:4] + ((((1,), ()), ((2,), ())),))
        for order in ("seen", "rising", "falling", ("told", [(1,)]), ("told", [()])):
            for wide in (NO_ROWS, NOTHING, ONE):
                self.assertEqual(ask(parts_in, wide, order), wide)

    def test_several_columns_of_key(self):
        parts = ((2, "b"), (2, None), (None, 9), (2, 5), ("", ""), (-BIG, "~"))
        wide = (("k", "l"), (), ("v",), ((),), tuple((part, ((1,),)) for part in parts))
        told = ask(parts_in, wide, "rising")
        self.assertEqual([part for part, _ in told[4]],
                         [(None, 9), (-BIG, "~"), (2, None), (2, 5), (2, "b"), ("", "")])

    def test_sixty_parts(self):
        rows = tuple(((number * 7 - 60 * (number * 7 // 60),), ((number,),)) for number in range(60))
        told = ask(parts_in, (("k",), (), ("v",), ((),), rows), "falling")
        self.assertEqual([part for part, _ in told[4]], [(number,) for number in range(59, -1, -1)])
        self.assertEqual(sorted(told[4]), sorted(rows))

    def test_bad_order(self):
        for order in WRONG_ORDERS:
            for wide in (WIDE, NOTHING, NO_ROWS, NO_HEADS, ONE):
                with self.subTest(order=order):
                    self.assertIs(type(refusal(parts_in, wide, order)), BadOrder)

    def test_many_folded_tables(self):
        for steps, wide in some_wides(32, 120, VALUES):
            parts = [part for part, _ in wide[4]]
            some = steps.mixed(parts)[:steps.below(4)]
            others = [part for part in parts if part not in some]
            for order, wanted in (("seen", parts), ("rising", rising(parts)),
                                  ("falling", rising(parts)[::-1]), (("told", some + some), some + others)):
                with self.subTest(wide=wide, order=order):
                    told = ask(parts_in, wide, order)
                    self.assertEqual(told, wide[:4] + (tuple(wide[4][parts.index(part)] for part in wanted),))

    def test_lists_handed_in_are_not_kept(self):
        listed = [("a",), (3,)]
        for deed in (parts_in, heads_in):
            told = deed(WIDE, ("told", listed))
            again = deed(WIDE, ("told", list(listed)))
            listed.append((None,))
            self.assertEqual(told, again)
            listed.pop()


class PartsByTest(unittest.TestCase):
    def check(self, head, name, wanted):
        told = ask(parts_by, WIDE, head, name)
        self.assertEqual(told, WIDE[:4] + (tuple(WIDE[4][place] for place in wanted),))

    def test_gaps_then_none_then_numbers_then_texts(self):
        self.check((2, "b"), "w", (2, 1, 0, 3))
        self.check((None, 5), "w", (0, 3, 2, 1))

    def test_like_ones_as_they_stand(self):
        self.check((2, "b"), "v", (2, 1, 0, 3))
        self.check((None, 5), "v", (0, 1, 2, 3))
        self.check((2, "a"), "w", (1, 3, 0, 2))
        self.check(("", None), "v", (0, 2, 3, 1))

    def test_gaps_ahead_of_none(self):
        self.check((2, "a"), "v", (1, 3, 0, 2))

    def test_without_rows(self):
        self.assertEqual(ask(parts_by, NO_ROWS, (1,), "v"), NO_ROWS)
        self.assertEqual(ask(parts_by, ONE, (), "v"), ONE)

    def test_no_head(self):
        for head in ((2, "c"), (2,), (), ("2", "b"), (None, None), ("b", 2)):
            for name in ("v", "x", "k"):
                with self.subTest(head=head, name=name):
                    self.assertIs(type(refusal(parts_by, WIDE, head, name)), NoHead)
        self.assertIs(type(refusal(parts_by, NO_HEADS, (1,), "v")), NoHead)
        self.assertIs(type(refusal(parts_by, NOTHING, (), "x")), NoHead)

    def test_no_column(self):
        for name in ("x", "", "k", "n", "m", "V", "vw"):
            with self.subTest(name=name):
                told = refusal(parts_by, WIDE, (2, "b"), name)
                self.assertIs(type(told), NoColumn)
                self.assertEqual(told.name, name)
        self.assertEqual(refusal(parts_by, NO_ROWS, (1,), "k").name, "k")

    def test_many_folded_tables(self):
        for steps, wide in some_wides(33, 150, VALUES):
            for place, head in enumerate(wide[3]):
                name = steps.one_of(wide[2])
                with self.subTest(wide=wide, head=head, name=name):
                    told = ask(parts_by, wide, head, name)
                    self.assertEqual(told[:4], wide[:4])
                    self.assertEqual(sorted(map(repr, told[4])), sorted(map(repr, wide[4])))
                    for one, other in zip(told[4], told[4][1:]):
                        shown = [() if row[1][place] is None else (row[1][place][wide[2].index(name)],)
                                 for row in (one, other)]
                        self.assertLessEqual(compared(*shown), 0)
                        if compared(*shown) == 0:
                            self.assertLess(wide[4].index(one), wide[4].index(other))


class ExchangedTest(unittest.TestCase):
    def test_a_row_for_each_head_and_a_head_for_each_part(self):
        self.assertEqual(ask(exchanged, WIDE), (
            ("n", "m"), ("k",), ("v", "w"),
            (("b",), (3,), (None,), ("a",)),
            (
                ((2, "b"), ((1, 4), (None, None), None, (1, "4"))),
                ((None, 5), (None, (7, "x"), (7, 0), (9, None))),
                ((2, "a"), ((None, 2), None, (5, 2), None)),
                (("", None), (None, ("a", 1), None, None)),
            )))

    def test_without_rows_or_heads(self):
        self.assertEqual(ask(exchanged, NO_ROWS), (("n",), ("k",), ("v",), (), (((2,), ()), ((1,), ()))))
        self.assertEqual(ask(exchanged, NO_HEADS), (("n",), ("k",), ("v",), ((2,), (1,)), ()))
        self.assertEqual(ask(exchanged, NOTHING), (("n",), ("k",), ("v",), (), ()))
        self.assertEqual(ask(exchanged, ONE), ONE)

    def test_no_columns_of_names(self):
        wide = (("k",), (), ("v",), ((),), (((1,), ((5,),)), ((2,), (None,))))
        self.assertEqual(ask(exchanged, wide), ((), ("k",), ("v",), ((1,), (2,)), (((), ((5,), None)),)))

    def test_many_folded_tables(self):
        for _, wide in some_wides(34, 120, VALUES):
            with self.subTest(wide=wide):
                told = ask(exchanged, wide)
                self.assertIs(is_wide(told), True)
                self.assertEqual(exchanged(told), wide)
                self.assertEqual(told[:3], (wide[1], wide[0], wide[2]))
                self.assertEqual(len(unfolded(told)[1]), len(unfolded(wide)[1]))
                for part, _ in wide[4]:
                    for head in wide[3]:
                        self.assertEqual(cell(told, head, part), cell(wide, part, head))


if __name__ == "__main__":
    unittest.main()
