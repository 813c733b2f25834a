"""Columns moved between the key and the heads of a folded table, and tables of its rows within it."""

from pivotfold.errors import BadColumns, NoColumn
from pivotfold.folding import are_wide_columns, folded, unfolded


def turned(wide, key, names):
    return folded(unfolded(wide), key, names, wide[2], "seen")


def without(names, name):
    if name not in names:
        raise NoColumn(name)
    return tuple([each for each in names if each != name])


def to_head(wide, name):
    return turned(wide, without(wide[0], name), wide[1] + (name,))


def to_key(wide, name):
    names = without(wide[1], name)
    return turned(wide, wide[0] + (name,), names)


def nested(wide, deep):
    groups = {}
    for part, cells in wide[4]:
        groups.setdefault(part[:deep], []).append((part[deep:], cells))
    columns_and_heads = (wide[0][deep:],) + wide[1:4]
    return tuple([(first, columns_and_heads + (tuple(rows),)) for first, rows in groups.items()])


def check_outer_key(nest, key):
    if len(nest) == 0:
        raise BadColumns("without a pair there is no folded table to give a key to")
    first = nest[0][0]
    rest = nest[0][1]
    if len(key) != len(first) or not are_wide_columns(tuple(key) + rest[0], rest[1], rest[2]):
        raise BadColumns("the key is not a new name for each value of first")


def unnested(nest, key):
    check_outer_key(nest, key)
    rows = []
    for first, rest in nest:
        rows.extend([(first + part, cells) for part, cells in rest[4]])
    inner = nest[0][1]
    return (tuple(key) + inner[0],) + inner[1:4] + (tuple(rows),)
