"""Values put together by each way ([9], as far as it speaks of ways.py)."""

import unittest

from pivotfold.errors import BadWay, NoNumber
from pivotfold.ways import put_together

BIG = 10 ** 30 - 1
WAYS = ("first", "last", "sum", "count", "least", "greatest", "unlike")

# Values, then what each of WAYS makes of them; None for sum where it is refused.
CASES = (
    ([5], (5, 5, 5, 1, 5, 5, 1)),
    ([0], (0, 0, 0, 1, 0, 0, 1)),
    ([None], (None, None, 0, 0, None, None, 0)),
    ([None, None, None], (None, None, 0, 0, None, None, 0)),
    ([3, 1, 2], (3, 2, 6, 3, 1, 3, 3)),
    ([2, 2, 2], (2, 2, 6, 3, 2, 2, 1)),
    ([None, 4, None], (None, None, 4, 1, 4, 4, 1)),
    ([4, None], (4, None, 4, 1, 4, 4, 1)),
    ([-5, 5], (-5, 5, 0, 2, -5, 5, 2)),
    ([-3, -7, None, -3], (-3, -3, -13, 3, -7, -3, 2)),
    ([BIG, BIG, 1], (BIG, 1, 2 * BIG + 1, 3, 1, BIG, 2)),
    ([-BIG, BIG], (-BIG, BIG, 0, 2, -BIG, BIG, 2)),
    ([10, 9], (10, 9, 19, 2, 9, 10, 2)),
)
TEXT_CASES = (
    ([""], ("", "", None, 1, "", "", 1)),
    (["", None], ("", None, None, 1, "", "", 1)),
    (["b", "a", "b"], ("b", "b", None, 3, "a", "b", 2)),
    (["10", "9"], ("10", "9", None, 2, "10", "9", 2)),
    ([7, "7"], (7, "7", None, 2, 7, "7", 2)),
    (["7", 7, "7", 7], ("7", 7, None, 4, 7, "7", 2)),
    ([None, "", 0, None], (None, None, None, 2, 0, "", 2)),
    ([BIG, "", -BIG], (BIG, -BIG, None, 3, -BIG, "", 3)),
)


class PutTogetherTest(unittest.TestCase):
    def check(self, some, way, wanted):
        told = put_together(some, way)
        self.assertEqual(told, wanted)
        self.assertIs(type(told), type(wanted))

    def test_numbers_and_none(self):
        for some, wanted in CASES:
            for way, want in zip(WAYS, wanted):
                with self.subTest(some=some, way=way):
                    self.check(some, way, want)

    def test_texts_among_them(self):
        for some, wanted in TEXT_CASES:
            for way, want in zip(WAYS, wanted):
                if way != "sum":
                    with self.subTest(some=some, way=way):
                        self.check(some, way, want)

    def test_a_sum_of_texts_is_refused(self):
        for some, _ in TEXT_CASES + (([1, 2, "3"], ()), (["1", None], ()), ((1, ""), ())):
            with self.subTest(some=some):
                with self.assertRaises(NoNumber) as caught:
                    put_together(some, "sum")
                self.assertIs(type(caught.exception), NoNumber)

    def test_tuples_may_be_handed_in(self):
        for some, wanted in CASES:
            for way, want in zip(WAYS, wanted):
                with self.subTest(some=some, way=way):
                    self.check(tuple(some), way, want)

    def test_other_ways_are_refused(self):
        for way in ("", "Sum", "sum ", " sum", "mean", "all", "rows", "seen", "firs", "lasts", "min", "first\n"):
            for some in ([1], [None], ["a"]):
                with self.subTest(way=way, some=some):
                    with self.assertRaises(BadWay) as caught:
                        put_together(some, way)
                    self.assertIs(type(caught.exception), BadWay)

    def test_bad_way_goes_ahead_of_no_number(self):
        with self.assertRaises(BadWay):
            put_together([1, "a"], "total")
        with self.assertRaises(BadWay):
            put_together([1, "a"], "SUM")

    def test_what_is_handed_in_stays(self):
        for way in WAYS:
            with self.subTest(way=way):
                some = [3, None, 1, 3]
                put_together(some, way)
                self.assertEqual(some, [3, None, 1, 3])

    def test_a_refusal_changes_nothing(self):
        some = [3, "a", None]
        with self.assertRaises(NoNumber):
            put_together(some, "sum")
        with self.assertRaises(BadWay):
            put_together(some, "no")
        self.assertEqual(some, [3, "a", None])
        self.assertEqual(put_together(some, "count"), 2)

    def test_sixty_values(self):
        some = [BIG] * 60
        self.assertEqual(put_together(some, "sum"), 60 * BIG)
        self.assertEqual(put_together(some, "count"), 60)
        self.assertEqual(put_together(some, "unlike"), 1)

    def test_what_was_told_may_be_handed_in_again(self):
        total = put_together([BIG, BIG], "sum")
        self.assertEqual(put_together([total, -BIG], "sum"), BIG)


if __name__ == "__main__":
    unittest.main()
