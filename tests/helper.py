"""What several test files share: asking twice, refusals, and many tables that are the same in every run."""

import copy
import functools

from pivotfold.errors import FoldError

BIG = 10 ** 30 - 1
WAYS = ("first", "last", "sum", "count", "least", "greatest", "unlike")
ADDED_WAYS = ("sum", "count", "least", "greatest")
VALUES = (None, 0, 1, -1, 9, 10, BIG, -BIG, "", "0", "1", "9", "10", "a", "A", "ab", "b", "~", " ", "'\\")
NUMBERS = (0, 1, -1, 9, 10, BIG, -BIG)

# Things that is_.. and shows_.. may be asked of, none of them a table, a folded table or a pair with one.
OTHER_THINGS = (
    None, True, False, 0, 1, -5, BIG, "", "ab", "a\tb\n", (), [], ((),), ([],), [[], []], ((), ()), (None, None),
    ((), (), (), (), ()), [(), (), ("v",), (), ()], (None,) * 5, ("a",) * 5, "abcde", (1, 2, 3, 4, 5),
    (("a",), ()), (("a",), ((1,),)), (True,) * 5,
)


def nest(thing, deep, kind):
    for _ in range(deep):
        thing = kind([thing])
    return thing


def ask(deed, *handed):
    """What is told, having seen that nothing handed in is changed and that the same is told again."""
    before = copy.deepcopy(handed)
    told = deed(*handed)
    again = deed(*handed)
    if repr(handed) != repr(before):
        raise AssertionError(f"{deed.__name__} changed what it was handed: {before!r}, now {handed!r}")
    if repr(told) != repr(again):
        raise AssertionError(f"{deed.__name__} told {told!r}, then {again!r}")
    return told


def refusal(deed, *handed):
    """The refusal, having seen that nothing handed in is changed."""
    before = copy.deepcopy(handed)
    try:
        told = deed(*handed)
    except FoldError as error:
        if repr(handed) != repr(before):
            raise AssertionError(f"{deed.__name__} changed what it was handed: {before!r}, now {handed!r}")
        return error
    raise AssertionError(f"{deed.__name__} told {told!r}")


class Steps:
    """Numbers that are well mixed, and yet the same in every run."""

    def __init__(self, start):
        self.state = start

    def below(self, many):
        self.state = (self.state * 6364136223846793005 + 1442695040888963407) % 2 ** 64
        return (self.state >> 33) % many

    def one_of(self, some):
        return some[self.below(len(some))]

    def mixed(self, some):
        left = list(some)
        return [left.pop(self.below(len(left))) for _ in range(len(left))]


def some_table(steps, columns, rows, pool):
    return (tuple("abcdefghijkl"[:columns]),
            tuple(tuple(steps.one_of(pool) for _ in range(columns)) for _ in range(rows)))


def some_split(steps, table):
    """Key, names and values, mixed, having together all columns, values one at least."""
    columns = steps.mixed(table[0])
    first = steps.below(len(columns))
    second = first + steps.below(len(columns) - first)
    return columns[:first], columns[first:second], columns[second:]


def some_cases(start, many, pool):
    """Tuples (steps, table, key, names, values) with many doubles, and with no rows now and then."""
    steps = Steps(start)
    for number in range(many):
        columns = 1 + steps.below(6)
        few = [steps.one_of(pool) for _ in range(1 + steps.below(4))]
        table = some_table(steps, columns, steps.below(14), few)
        if number == 0:
            table = some_table(steps, 12, 60, pool[:4])
        yield (steps, table) + some_split(steps, table)


def without_doubles(table, names):
    places = [table[0].index(name) for name in names]
    seen = []
    rows = []
    for row in table[1]:
        if [row[place] for place in places] not in seen:
            seen.append([row[place] for place in places])
            rows.append(row)
    return (table[0], tuple(rows))


def row_values(table, number, names):
    return tuple(table[1][number][table[0].index(name)] for name in names)


def unlike(things):
    told = []
    for thing in things:
        if thing not in told:
            told.append(thing)
    return told


def kind_place(value):
    return 0 if value is None else 1 if isinstance(value, int) else 2


def compared(one, other):
    """Below nought where a tuple of values stands ahead of another one, above it where behind."""
    for left, right in zip(one, other):
        if kind_place(left) != kind_place(right):
            return kind_place(left) - kind_place(right)
        if left != right:
            return -1 if left < right else 1
    return len(one) - len(other)


def rising(tuples):
    return sorted(tuples, key=functools.cmp_to_key(compared))


def parts_and_heads(table, key, names, order):
    parts = unlike(row_values(table, number, key) for number in range(len(table[1])))
    heads = unlike(row_values(table, number, names) for number in range(len(table[1])))
    return parts, rising(heads) if order == "rising" else heads


def rows_of(table, key, names, part, head):
    return tuple(number for number in range(len(table[1]))
                 if row_values(table, number, key) == part and row_values(table, number, names) == head)


def some_wide(steps, pool):
    """A folded table with gaps in any place, so also with rows and heads of gaps alone."""
    sizes = (steps.below(3), steps.below(3), 1 + steps.below(2))
    key, names, values = "abc"[:sizes[0]], "def"[:sizes[1]], "ghi"[:sizes[2]]
    parts = unlike(tuple(steps.one_of(pool) for _ in key) for _ in range(steps.below(5)))
    heads = unlike(tuple(steps.one_of(pool) for _ in names) for _ in range(steps.below(5)))
    rows = []
    for part in parts:
        cells = [None if steps.below(3) == 0 else tuple(steps.one_of(pool) for _ in values) for _ in heads]
        rows.append((part, tuple(cells)))
    return (tuple(key), tuple(names), tuple(values), tuple(heads), tuple(rows))


def some_wides(start, many, pool):
    steps = Steps(start)
    for _ in range(many):
        yield steps, some_wide(steps, pool)
