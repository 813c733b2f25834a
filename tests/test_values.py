"""Values: what they are and how they rise ([2], [3], [4])."""

import unittest

from pivotfold.values import is_value, risen, stands_ahead

BIG = 10 ** 30 - 1

# In rising order, no two alike.
RISING = (
    None,
    -BIG, -(BIG - 1), -10, -9, -2, -1, 0, 1, 2, 9, 10, 11, BIG - 1, BIG,
    "", " ", "!", "-1", "0", "1", "10", "2", "9", "A", "Z", "Zz", "a", "aB", "aa", "ab", "b",
    "z" * 39, "z" * 40, "~",
)


def nest(thing, deep, kind):
    for _ in range(deep):
        thing = kind([thing])
    return thing


class IsValueTest(unittest.TestCase):
    def test_values(self):
        for thing in RISING + ("'", "\\", "a b", "".join(map(chr, range(32, 37))), "&'()*+,-./"):
            with self.subTest(thing=thing):
                self.assertIs(is_value(thing), True)

    def test_every_sign_from_the_blank_to_the_tilde(self):
        for number in range(32, 127):
            if number != ord("%"):
                with self.subTest(number=number):
                    self.assertIs(is_value("a" + chr(number) + "b"), True)

    def test_true_and_false_are_no_numbers(self):
        self.assertIs(is_value(True), False)
        self.assertIs(is_value(False), False)

    def test_texts_with_other_signs(self):
        for thing in ("\t", "\n", "a\tb", "a\n", "\na", "ab\n\n", " \t ", "\x1f", "\x7f", "a\xe9"):
            with self.subTest(thing=thing):
                self.assertIs(is_value(thing), False)

    def test_tuples_and_lists_are_none(self):
        for thing in ((), [], (1,), [1], ("a",), ["a"], (None,), [None], ((), []), [[1, "a"], (2,)]):
            with self.subTest(thing=thing):
                self.assertIs(is_value(thing), False)

    def test_deep_things(self):
        for deep in (1, 2, 11, 12):
            for kind in (tuple, list):
                with self.subTest(deep=deep, kind=kind):
                    self.assertIs(is_value(nest(None, deep, kind)), False)

    def test_bounds_are_not_looked_at(self):
        self.assertIs(is_value(10 ** 31), True)
        self.assertIs(is_value(-(10 ** 31)), True)
        self.assertIs(is_value("a" * 41), True)


class StandsAheadTest(unittest.TestCase):
    def test_every_pair(self):
        for i, one in enumerate(RISING):
            for j, other in enumerate(RISING):
                with self.subTest(one=one, other=other):
                    self.assertIs(stands_ahead(one, other), i < j)

    def test_numbers_stand_ahead_of_texts_of_the_same_figures(self):
        self.assertIs(stands_ahead(7, "7"), True)
        self.assertIs(stands_ahead("7", 7), False)
        self.assertIs(stands_ahead(BIG, ""), True)
        self.assertIs(stands_ahead("", -BIG), False)

    def test_none_against_nought_and_the_text_without_signs(self):
        self.assertIs(stands_ahead(None, 0), True)
        self.assertIs(stands_ahead(None, -BIG), True)
        self.assertIs(stands_ahead(None, ""), True)
        self.assertIs(stands_ahead(None, None), False)

    def test_the_same_again(self):
        self.assertIs(stands_ahead("a", "b"), stands_ahead("a", "b"))


class RisenTest(unittest.TestCase):
    def test_rises(self):
        self.assertEqual(risen(["b", 2, None, "a", -1, "10", 10, ""]), [None, -1, 2, 10, "", "10", "a", "b"])

    def test_all_orders_of_many_values(self):
        there = len(RISING)
        for step in (1, 2, 3, 11, 16):
            with self.subTest(step=step):
                mixed = [RISING[(place * step + 5) % there] for place in range(there)]
                self.assertEqual(len(set(mixed)), there)
                self.assertEqual(risen(mixed), list(RISING))
        self.assertEqual(risen(list(reversed(RISING))), list(RISING))

    def test_like_ones_stay_each_as_often(self):
        self.assertEqual(risen([1, "1", None, 1, "1", None]), [None, None, 1, 1, "1", "1"])

    def test_like_ones_stay_as_they_were(self):
        # Two numbers of 30 figures that are alike, but two objects.
        one = int("1" * 30)
        other = int("1" * 30)
        told = risen([one, 0, other])
        self.assertIs(told[1], one)
        self.assertIs(told[2], other)

    def test_none_handed_in(self):
        self.assertEqual(risen([]), [])
        self.assertEqual(risen(()), [])

    def test_a_list_is_told_of_a_tuple(self):
        self.assertEqual(risen((3, 1, 2)), [1, 2, 3])
        self.assertIs(type(risen((3, 1, 2))), list)

    def test_what_is_handed_in_stays(self):
        values = ["b", None, 3]
        risen(values)
        self.assertEqual(values, ["b", None, 3])

    def test_what_is_told_is_the_askers_own(self):
        values = [1, 2, 3]
        told = risen(values)
        told.append("x")
        told[0] = None
        self.assertEqual(values, [1, 2, 3])
        self.assertEqual(risen(values), [1, 2, 3])

    def test_what_was_told_may_be_handed_in_again(self):
        self.assertEqual(risen(risen(["b", None, 3])), [None, 3, "b"])


if __name__ == "__main__":
    unittest.main()
