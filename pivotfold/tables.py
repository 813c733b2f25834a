"""Tables: a tuple of columns and a tuple of rows, and what is told of them."""

from pivotfold.errors import NoColumn
from pivotfold.values import is_value, rank, risen

LETTERS = "abcdefghijklmnopqrstuvwxyz"
LONGEST_NAME = 8


def is_name(thing):
    if not isinstance(thing, str) or thing == "" or len(thing) > LONGEST_NAME:
        return False
    return all([sign in LETTERS for sign in thing])


def are_columns(thing):
    if not isinstance(thing, tuple) or len(thing) == 0:
        return False
    if not all([is_name(name) for name in thing]):
        return False
    return len(set(thing)) == len(thing)


def is_row(thing, width):
    if not isinstance(thing, tuple) or len(thing) != width:
        return False
    return all([is_value(value) for value in thing])


def is_table(thing):
    if not isinstance(thing, tuple) or len(thing) != 2:
        return False
    columns = thing[0]
    rows = thing[1]
    if not are_columns(columns) or not isinstance(rows, tuple):
        return False
    return all([is_row(row, len(columns)) for row in rows])


def place_of(table, name):
    columns = table[0]
    if name not in columns:
        raise NoColumn(name)
    return columns.index(name)


def places_of(table, names):
    return [place_of(table, name) for name in names]


def values_at(row, places):
    return tuple([row[place] for place in places])


def column(table, name):
    place = place_of(table, name)
    return [row[place] for row in table[1]]


def kept(table, names):
    places = places_of(table, names)
    return (tuple(names), tuple([values_at(row, places) for row in table[1]]))


def sorted_by(table, names):
    places = places_of(table, names)
    rows = sorted(table[1], key=lambda row: rank(values_at(row, places)))
    return (table[0], tuple(rows))


def alike(table, names):
    places = places_of(table, names)
    groups = {}
    for number, row in enumerate(table[1]):
        groups.setdefault(values_at(row, places), []).append(number)
    return list(groups.values())


def is_key(table, names):
    # Whatever is_.. is asked of, it answers: what is no table has no key, and
    # what is no list of columns is none.
    if not is_table(table) or not isinstance(names, (list, tuple)):
        return False
    return len(alike(table, names)) == len(table[1])


def same_rows(one, other):
    return one[0] == other[0] and risen(one[1]) == risen(other[1])
