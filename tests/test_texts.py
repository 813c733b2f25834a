"""Tables and folded tables as texts, written and read back ([1], [2], [3], [18])."""

import re
import unittest

from pivotfold.errors import BadRow
from pivotfold.folding import is_wide
from pivotfold.tables import is_table
from pivotfold.texts import table_from, table_text, wide_from, wide_text
from tests.helper import BIG, VALUES, Steps, ask, refusal, some_cases, some_wides

SALES = (
    ("town", "year", "sold"),
    (("Ulm", 2, None), ("", -10, "it's"), ("a b", 0, "\\"), (None, "0", "-"), ("_ : / '", BIG, "\\'\\"), ("Ulm", 2, None)),
)
SALES_TEXT = "\n".join((
    "table town year sold", "row 'Ulm' 2 -", "row '' -10 'it\\'s'", "row 'a b' 0 '\\\\'", "row - '0' '-'",
    "row '_ : / \\'' " + "9" * 30 + " '\\\\\\'\\\\'", "row 'Ulm' 2 -"))

WIDE = (
    ("town",), ("year", "item"), ("sold", "note"),
    ((2, "a pen"), (None, ""), (1, ":")),
    (
        (("Ulm",), ((10, None), None, ("_", "'"))),
        (("a  b",), (None, None, None)),
        ((None,), (None, (-1, "\\"), (None, None))),
    ),
)
WIDE_TEXT = "\n".join((
    "wide town / year item / sold note", "head 2 'a pen'", "head - ''", "head 1 ':'",
    "part 'Ulm' : 10 - : _ : '_' '\\''", "part 'a  b' : _ : _ : _", "part - : _ : -1 '\\\\' : - -"))

# Folded tables without heads, rows or columns, each with its text.
SMALL_WIDES = (
    (((), (), ("v",), (), ()), "wide / / v"),
    (((), (), ("v",), ((),), ()), "wide / / v\nhead"),
    (((), (), ("v",), ((),), (((), (None,)),)), "wide / / v\nhead\npart : _"),
    (((), (), ("v",), ((),), (((), ((None,),)),)), "wide / / v\nhead\npart : -"),
    (((), (), ("v", "w"), ((),), (((), (("_", ":"),)),)), "wide / / v w\nhead\npart : '_' ':'"),
    (((), (), ("v",), (), (((), ()),)), "wide / / v\npart"),
    ((("k",), (), ("v",), (), ()), "wide k / / v"),
    ((("k",), (), ("v",), (), (((1,), ()), (("1",), ()))), "wide k / / v\npart 1\npart '1'"),
    ((("k", "l"), (), ("v",), ((),), (((1, None), ((5,),)),)), "wide k l / / v\nhead\npart 1 - : 5"),
    (((), ("n",), ("v",), ((1,), (2,)), ()), "wide / n / v\nhead 1\nhead 2"),
    (((), ("n",), ("v",), ((1,), ("1",)), (((), (None, (0,))),)), "wide / n / v\nhead 1\nhead '1'\npart : _ : 0"),
    ((("k",), ("m", "n"), ("v",), (), ()), "wide k / m n / v"),
)

# Not so written, in the place of a value.
WRONG_VALUES = (
    "", "a", "A", "+1", "01", "-01", "00", "-0", "--1", "1-", "- 1", "1.0", "1e3", "1_0", "0x1", "'", "'a", "a'", "'a''",
    "''a", "'a'b'", "'a'b", "b'a'", "'\\'", "'\\a'", "'a\\", "\\'a'", "'\\\\\\'", "\"a\"", "_", ":", "/", "None", "row",
    "'a' ", " 'a'", "1 ", " 1", "1  2", "'a'  'b'", "'a''b'", "~", "'''", "'\\\\''", "-'a'", "1'a'", "'a'1", "-a", "0-", "-_",
)
RIGHT_VALUES = (
    ("-", None), ("0", 0), ("7", 7), ("-7", -7), ("10", 10), ("9" * 31, 10 ** 31 - 1), ("''", ""), ("' '", " "), ("'-'", "-"),
    ("'0'", "0"), ("'\\''", "'"), ("'\\\\'", "\\"), ("'\\\\\\''", "\\'"), ("'\\'\\\\'", "'\\"), ("'\"'", "\""),
    ("'a b  c '", "a b  c "), ("'row'", "row"), ("' : _ / '", " : _ / "), ("'~'", "~"), ("'" + "x" * 41 + "'", "x" * 41),
)

VALUE = r"(?:-|0|-?[1-9][0-9]*|'(?:[ -&(-\[\]-~]|\\['\\])*')"
NAME = r"[a-z]{1,8}"


PIECE = re.compile(rf"(?:{VALUE}|{NAME}|[:/_])(?=\Z| )")


def words_of(row):
    """A row's pieces, read by a pattern, where it is so written at all, else None."""
    told, place = [], 0
    while place <= len(row):
        found = PIECE.match(row, place)
        if not found:
            return None
        told.append(found.group())
        place = found.end() + 1
    return told


def are_names(words):
    return len(set(words)) == len(words) and all(re.fullmatch(NAME, word) for word in words)


def are_values(words, many):
    return len(words) == many and all(re.fullmatch(VALUE, word) for word in words)


def first_wrong_of_table(text):
    rows = [words_of(row) for row in text.split("\n")]
    if not rows[0] or rows[0][0] != "table" or len(rows[0]) == 1 or not are_names(rows[0][1:]):
        return 0
    for number, words in enumerate(rows[1:], start=1):
        if not words or words[0] != "row" or not are_values(words[1:], len(rows[0]) - 1):
            return number
    return None


def parted_by(words, mark):
    told = [[]]
    for word in words:
        if word == mark:
            told.append([])
        else:
            told[-1].append(word)
    return told


def first_wrong_of_wide(text):
    rows = [words_of(row) for row in text.split("\n")]
    if not rows[0] or rows[0][0] != "wide":
        return 0
    columns = parted_by(rows[0][1:], "/")
    if len(columns) != 3 or not columns[2] or not are_names(sum(columns, [])):
        return 0
    seen = {"head": [], "part": []}
    for number, words in enumerate(rows[1:], start=1):
        if not words or words[0] not in seen or words[0] == "head" and seen["part"]:
            return number
        groups = parted_by(words[1:], ":")
        width, many = (len(columns[1]), 0) if words[0] == "head" else (len(columns[0]), len(seen["head"]))
        if len(groups) != 1 + many or not are_values(groups[0], width) or groups[0] in seen[words[0]]:
            return number
        if not all(group == ["_"] or are_values(group, len(columns[2])) for group in groups[1:]):
            return number
        seen[words[0]].append(groups[0])
    return None


def spoiled(steps, text):
    """The text with a sign, a piece or a row put in, left out, doubled or exchanged."""
    choice = steps.below(6)
    if choice < 3:
        place = steps.below(len(text) + 1)
        sign = steps.one_of(" \n'\\-0123_:/abv")
        return (text[:place] + sign + text[place:], text[:place] + text[place + 1:],
                text[:place] + sign + text[place + 1:])[choice]
    mark = steps.one_of("\n ")
    some = text.split(mark)
    one, other = steps.below(len(some)), steps.below(len(some))
    if choice == 3:
        some.insert(other, some[one])
    elif choice == 4:
        some[one], some[other] = some[other], some[one]
    else:
        some.pop(one)
    return mark.join(some)


class Reading(unittest.TestCase):
    def refused(self, deed, text, number):
        with self.subTest(deed=deed.__name__, text=text):
            told = refusal(deed, text)
            self.assertIs(type(told), BadRow)
            self.assertEqual(told.row, number)
            self.assertIs(type(told.row), int)

    def check_spoiled(self, deed, write, first_wrong, text, steps):
        for _ in range(40):
            wrong = spoiled(steps, text)
            number = first_wrong(wrong)
            if number is None:
                with self.subTest(text=wrong):
                    self.assertEqual(write(ask(deed, wrong)), wrong)
            else:
                self.refused(deed, wrong, number)


class TableTextTest(Reading):
    def test_values_as_they_are_written(self):
        self.assertEqual(ask(table_text, SALES), SALES_TEXT)
        for written, value in RIGHT_VALUES:
            with self.subTest(value=value):
                self.assertEqual(ask(table_text, (("v",), ((value,),))), "table v\nrow " + written)

    def test_without_rows(self):
        self.assertEqual(ask(table_text, (("a",), ())), "table a")
        self.assertEqual(ask(table_text, (("b", "abcdefgh"), ())), "table b abcdefgh")

    def test_read_back(self):
        self.assertEqual(ask(table_from, SALES_TEXT), SALES)
        self.assertEqual(ask(table_from, "table b a"), (("b", "a"), ()))
        for written, value in RIGHT_VALUES:
            for text, wanted in (("table v\nrow " + written, (("v",), ((value,),))),
                                 (f"table v w\nrow {written} {written}\nrow 1 {written}",
                                  (("v", "w"), ((value, value), (1, value))))):
                with self.subTest(text=text):
                    told = ask(table_from, text)
                    self.assertEqual(told, wanted)
                    self.assertIs(is_table(told), True)
                    self.assertEqual([type(each) for row in told[1] for each in row],
                                     [type(each) for row in wanted[1] for each in row])

    def test_every_sign_and_every_pair_of_marks(self):
        signs = [chr(number) for number in range(32, 127) if chr(number) != "%"]
        texts = signs + [one + other for one in " '\\-ab" for other in " '\\-ab"]
        texts += [one + other + last for one in "'\\ " for other in "'\\ " for last in "'\\ "]
        for text in texts:
            table = (("v", "w"), ((text, text), (text + text, None)))
            with self.subTest(text=text):
                self.assertEqual(ask(table_from, table_text(table)), table)

    def test_many_tables(self):
        steps = Steps(70)
        for _, table, _, _, _ in some_cases(71, 60, VALUES):
            text = ask(table_text, table)
            self.assertEqual(ask(table_from, text), table)
            self.assertIsNone(first_wrong_of_table(text))
            if len(text) < 400:
                self.check_spoiled(table_from, table_text, first_wrong_of_table, text, steps)

    def test_sixty_rows_of_twelve_columns(self):
        row = (BIG, -BIG, None, "'" * 40, "\\" * 40, " " * 40, "", "x" * 40, 0, "0", "-", "'")
        table = (tuple("abcdefghijkl"), (row,) * 60)
        self.assertEqual(ask(table_from, table_text(table)), table)

    def test_two_hundred_rows_of_five_thousand_signs(self):
        text = "\n".join(["table v"] + ["row '" + "a" * 4994 + "'"] * 199)
        told = table_from(text)
        self.assertEqual(told, (("v",), (("a" * 4994,),) * 199))
        self.assertEqual(table_text(told), text)


class TableFromRefusedTest(Reading):
    def test_the_first_row(self):
        for text in ("", " ", "\n", "table", "table ", " table a", "table  a", "table a ", "table a  b", "Table a", "tables a",
                     "tablea", "row 1", "wide / / v", "table A", "table a1", "table abcdefghi", "table a a", "table a b a",
                     "table 'a'", "table 1", "table -", "table a /", "table a,b", "a", "table a_b", "table\na", "\ntable a"):
            self.refused(table_from, text, 0)
            self.refused(table_from, text + "\nrow", 0)

    def test_rows_of_another_word_or_many(self):
        for row in ("", " ", "row", "row ", "row 1", "row 1 2 3", "row 1 2 ", "row  1 2", " row 1 2", "row 1  2", "Row 1 2",
                    "rows 1 2", "row1 2", "row '1 2'", "row 1 '2", "1 2", "table a b", "head 1 2", "part 1 2", "row 1,2",
                    "row\n1 2", "- - -", "'row' 1 2"):
            self.refused(table_from, "table a b\n" + row, 1)
            self.refused(table_from, "table a b\nrow 1 2\nrow - ''\n" + row, 3)
            self.refused(table_from, "table a b\n" + row + "\nrow 1 2", 1)

    def test_values_that_are_not_so_written(self):
        for wrong in WRONG_VALUES:
            self.refused(table_from, "table v\nrow " + wrong, 1)
            self.refused(table_from, f"table v w\nrow 1 2\nrow {wrong} 2\nrow 1 2", 2)
            self.refused(table_from, f"table v w\nrow 1 2\nrow 'x' {wrong}\nrow", 2)

    def test_signs_that_no_value_has(self):
        self.refused(table_from, "table v\nrow 'a\tb'", 1)

    def test_no_line_feed_behind_the_last(self):
        self.refused(table_from, "table a\n", 1)
        self.refused(table_from, "table a\nrow 1\n", 2)
        self.refused(table_from, "table a\n\nrow 1", 1)
        self.refused(table_from, SALES_TEXT + "\n", 7)

    def test_the_first_of_several_goes(self):
        self.refused(table_from, "table a\nrow 1\nrow x\nrow y", 2)
        self.refused(table_from, "table a\nrow 1 2\nrow x", 1)
        self.refused(table_from, "table a a\nrow 1 2", 0)
        self.refused(table_from, "\n".join(["table a"] + ["row 1"] * 198 + ["row"]), 199)


class WideTextTest(Reading):
    def test_as_it_is_written(self):
        self.assertEqual(ask(wide_text, WIDE), WIDE_TEXT)
        for wide, text in SMALL_WIDES:
            with self.subTest(wide=wide):
                self.assertEqual(ask(wide_text, wide), text)

    def test_read_back(self):
        self.assertEqual(ask(wide_from, WIDE_TEXT), WIDE)
        for wide, text in SMALL_WIDES:
            with self.subTest(text=text):
                told = ask(wide_from, text)
                self.assertEqual(told, wide)
                self.assertIs(is_wide(told), True)

    def test_values_wherever_they_stand(self):
        for written, value in RIGHT_VALUES:
            wide = (("k", "l"), ("m", "n"), ("v", "w"), ((value, 0), (0, value)),
                    (((value, value), ((value, 5), (5, value))), ((0, value), (None, (value, value)))))
            text = (f"wide k l / m n / v w\nhead {written} 0\nhead 0 {written}\n"
                    f"part {written} {written} : {written} 5 : 5 {written}\npart 0 {written} : _ : {written} {written}")
            if value != 0:
                with self.subTest(value=value):
                    self.assertEqual(ask(wide_text, wide), text)
                    self.assertEqual(ask(wide_from, text), wide)

    def test_many_folded_tables(self):
        steps = Steps(72)
        for _, wide in some_wides(73, 80, VALUES):
            text = ask(wide_text, wide)
            self.assertEqual(ask(wide_from, text), wide)
            self.assertIsNone(first_wrong_of_wide(text))
            if len(text) < 400:
                self.check_spoiled(wide_from, wide_text, first_wrong_of_wide, text, steps)

    def test_small_folded_tables_spoiled(self):
        steps = Steps(74)
        for _, text in SMALL_WIDES + ((WIDE, WIDE_TEXT),) * 5:
            self.check_spoiled(wide_from, wide_text, first_wrong_of_wide, text, steps)

    def test_sixty_parts_and_heads_of_twelve_columns(self):
        heads = tuple((number, "'" * 40, None) for number in range(60))
        rows = tuple(((number, -BIG), tuple(None if (number + place) % 3 else (BIG,) * 7 for place in range(60)))
                     for number in range(60))
        wide = (("a", "b"), ("c", "d", "e"), tuple("fghijkl"), heads, rows)
        self.assertEqual(ask(wide_from, wide_text(wide)), wide)


class WideFromRefusedTest(Reading):
    def test_the_first_row(self):
        for text in ("", "wide", "wide / /", "wide / / ", "wide / v", "wide v", "wide / / / v", "wide / / v /", "wide k / n / k",
                     "wide k / k / v", "wide k k / n / v", "wide / / v v", "wide / n n / v", "wide k / v / v", "wide  / / v",
                     "wide /  / v", "wide / / v ", "wide // v", "wide/ / v", "wide / / V", "wide / / abcdefghi", "wide / / 1",
                     "wide / / 'v'", " wide / / v", "Wide / / v", "table v", "head", "wide / / -", "wide k : n : v", "\nwide / / v",
                     "wide k / n /", "wide k n / /", "wide '/ /' v"):
            self.refused(wide_from, text, 0)
            self.refused(wide_from, text + "\nhead", 0)

    def test_heads(self):
        for row in ("head", "head 1", "head 1 2 3", "head 1 2 ", "head  1 2", "Head 1 2", " head 1 2", "head 1  2", "head 1 _",
                    "head : 1 2", "head 1 : 2", "heads 1 2", "", "row 1 2", "head 1 'a", "'head' 1 2", "head 1 2 :", "head _"):
            self.refused(wide_from, "wide / m n / v\n" + row, 1)
            self.refused(wide_from, "wide / m n / v\nhead 3 4\nhead 5 6\n" + row + "\nhead 3 4", 3)

    def test_heads_that_are_there_already(self):
        self.refused(wide_from, "wide / n / v\nhead 1\nhead '1'\nhead -\nhead 1\nhead -", 4)
        self.refused(wide_from, "wide / / v\nhead\nhead", 2)
        self.refused(wide_from, "wide / m n / v\nhead 1 2\nhead 2 1\nhead 1 2", 3)

    def test_heads_behind_a_part(self):
        self.refused(wide_from, "wide k / n / v\npart 1\nhead 1", 2)
        self.refused(wide_from, "wide k / n / v\nhead 1\npart 1 : _\nhead 2", 3)
        self.refused(wide_from, "wide / / v\npart\nhead", 2)

    def test_parts(self):
        for row in ("part", "part 1", "part 1 2", "part 1 2 : 5 6", "part 1 2 : 5 6 :", "part 1 2 : 5 6 : 7",
                    "part 1 2 : 5 6 : 7 8 9", "part 1 2 : 5 6 : 7 8 : _", "part 1 : 5 6 : 7 8", "part 1 2 3 : 5 6 : 7 8",
                    "part 1 2 : _ _ : 7 8", "part 1 2 : 5 _ : 7 8", "part 1 2 _ : 5 6", "part 1 2 : : 7 8", "part 1 2 5 6 : 7 8",
                    "part _ 2 : _ : _", "part 1 2: _ : _", "part 1 2 :_ : _", "part 1 2 : _: _", "part 1 2 : _ : _ ",
                    " part 1 2 : _ : _", "part  1 2 : _ : _", "part 1 2  : _ : _", "part 1 2 :  _ : _", "Part 1 2 : _ : _",
                    "parts 1 2 : _ : _", "row 1 2 : _ : _", "part 1 2 / _ / _", "part : 1 2 : _ : _", "", "part 1 2 : '_ : _",
                    "part 1 2 : '_' : _", "part 1 2 : __ : _", "part 1 2 ':' _ : _", "part 1 2 : _ ':' _", "'part' 1 2 : _ : _"):
            self.refused(wide_from, "wide k l / n / v w\nhead 1\nhead 2\n" + row, 3)
            self.refused(wide_from, f"wide k l / n / v w\nhead 1\nhead 2\npart - '' : _ : 5 6\n{row}\npart", 4)

    def test_parts_that_are_there_already(self):
        self.refused(wide_from, "wide k / / v\nhead\npart 1 : 2\npart '1' : 2\npart - : 2\npart 1 : _", 5)
        self.refused(wide_from, "wide / / v\npart\npart", 2)
        self.refused(wide_from, "wide / n / v\nhead 1\npart : 1\npart : _", 3)

    def test_values_that_are_not_so_written(self):
        for wrong in WRONG_VALUES:
            self.refused(wide_from, f"wide k / n / v\nhead {wrong}\npart 1 : 2", 1)
            self.refused(wide_from, f"wide k / n / v\nhead 1\npart {wrong} : 2\npart 3 : 4", 2)
            if wrong != "_":
                self.refused(wide_from, f"wide k / n / v\nhead 1\npart 0 : _\npart 1 : {wrong}\npart", 3)

    def test_signs_that_no_value_has(self):
        self.refused(wide_from, "wide / n / v\nhead 'a\tb'", 1)

    def test_no_line_feed_behind_the_last(self):
        self.refused(wide_from, "wide / / v\n", 1)
        self.refused(wide_from, WIDE_TEXT + "\n", 7)
        self.refused(wide_from, "wide / n / v\n\nhead 1", 1)

    def test_two_hundred_rows(self):
        rows = ["wide k / / v", "head"] + [f"part {number} : {number}" for number in range(198)]
        self.assertEqual(len(ask(wide_from, "\n".join(rows))[4]), 198)
        self.refused(wide_from, "\n".join(rows[:-1] + ["part 0 : 5"]), 199)


class LongNumbersTest(Reading):
    """Numbers of more figures than Python reads or writes at once: a row of a text may hold them."""

    def test_read_and_written(self):
        for many in (1, 63, 64, 65, 127, 128, 129, 1000, 4299, 4300, 4301, 4990):
            for figures in ("9" * many, "1" + "0" * (many - 1), ("1234567890" * 500)[:many]):
                value = 0
                for figure in figures:
                    value = value * 10 + ord(figure) - ord("0")
                for written, wanted in ((figures, value), ("-" + figures, -value)):
                    text = "table v w\nrow " + written + " -"
                    told = table_from(text)
                    self.assertTrue(told[1][0][0] == wanted, f"{many} figures")
                    self.assertTrue(table_text(told) == text, f"{many} figures")

    def test_with_noughts_ahead(self):
        for many in (2, 64, 65, 4990):
            for sign in ("", "-"):
                with self.assertRaises(BadRow) as caught:
                    table_from("table v\nrow 1\nrow " + sign + "0" * many)
                self.assertEqual(caught.exception.row, 2)

    def test_in_heads_parts_and_cells(self):
        long = "7" * 4400
        text = f"wide k / n / v\nhead {long}\nhead -{long}\npart {long} : {long} : _\npart -{long} : _ : 1"
        self.assertTrue(wide_text(wide_from(text)) == text)
        with self.assertRaises(BadRow) as caught:
            wide_from(f"wide k / n / v\nhead {long}\nhead -{long}\nhead {long}")
        self.assertEqual(caught.exception.row, 3)


if __name__ == "__main__":
    unittest.main()
