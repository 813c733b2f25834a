"""Folded tables: some columns' values as heads, those of others in the cells below them.

A folded table is a tuple (key, names, values, heads, rows), its rows pairs (part, cells).
"""

from pivotfold.errors import BadColumns, BadOrder, Double, NoHead, NoPart
from pivotfold.tables import are_columns, is_row, places_of, values_at
from pivotfold.values import risen

ORDERS = ("seen", "rising")


def is_pair(thing):
    return isinstance(thing, tuple) and len(thing) == 2


def are_wide_columns(key, names, values):
    if not all([isinstance(some, tuple) for some in (key, names, values)]):
        return False
    return len(values) > 0 and are_columns(key + names + values)


def are_unlike_rows(things, width):
    # Whether they are rows is asked first: a list couldn't be put into a set.
    return all([is_row(thing, width) for thing in things]) and len(set(things)) == len(things)


def are_cells(thing, many, width):
    if not isinstance(thing, tuple) or len(thing) != many:
        return False
    return all([each is None or is_row(each, width) for each in thing])


def is_wide(thing):
    if not isinstance(thing, tuple) or len(thing) != 5 or not are_wide_columns(thing[0], thing[1], thing[2]):
        return False
    heads = thing[3]
    rows = thing[4]
    if not isinstance(heads, tuple) or not are_unlike_rows(heads, len(thing[1])):
        return False
    if not isinstance(rows, tuple) or not all([is_pair(row) for row in rows]):
        return False
    if not are_unlike_rows([row[0] for row in rows], len(thing[0])):
        return False
    return all([are_cells(row[1], len(heads), len(thing[2])) for row in rows])


def check_all_columns(columns, key, names, values):
    together = list(key) + list(names) + list(values)
    if len(together) != len(columns) or not all([together.count(name) == 1 for name in columns]):
        raise BadColumns("key, names and values are not all the columns, each once")
    if len(values) == 0:
        raise BadColumns("there is no column of values")


def check_order(order):
    if order not in ORDERS:
        raise BadOrder("an order is seen or rising")


# From each pair (part, head) that there is to the rising list of its rows' numbers.
# A dict keeps the order in which its keys came, so parts and heads as first seen,
# doubles and sources can all be read off this one walk.
def rows_by_place(table, key, names):
    key_places = places_of(table, key)
    name_places = places_of(table, names)
    groups = {}
    for number, row in enumerate(table[1]):
        place = (values_at(row, key_places), values_at(row, name_places))
        groups.setdefault(place, []).append(number)
    return groups


def first_seen(things):
    seen = {}
    for thing in things:
        seen[thing] = True
    return tuple(seen)


def parts_seen(groups):
    return first_seen([part for part, head in groups])


def heads_seen(groups, order):
    heads = first_seen([head for part, head in groups])
    return tuple(risen(heads)) if order == "rising" else heads


def laid_row(part, heads, things, gap):
    return tuple([things.get((part, head), gap) for head in heads])


def laid_out(parts, heads, things, gap):
    return tuple([laid_row(part, heads, things, gap) for part in parts])


def rows_laid_out(parts, heads, cells):
    return tuple(zip(parts, laid_out(parts, heads, cells, None)))


def check_doubles(groups):
    doubles = [(numbers[1], numbers[0]) for numbers in groups.values() if len(numbers) > 1]
    if len(doubles) > 0:
        first = min(doubles)
        raise Double((first[1], first[0]))


def folded(table, key, names, values, order):
    check_all_columns(table[0], key, names, values)
    check_order(order)
    groups = rows_by_place(table, key, names)
    check_doubles(groups)
    value_places = places_of(table, values)
    cells = {}
    for place, numbers in groups.items():
        cells[place] = values_at(table[1][numbers[0]], value_places)
    heads = heads_seen(groups, order)
    rows = rows_laid_out(parts_seen(groups), heads, cells)
    return (tuple(key), tuple(names), tuple(values), heads, rows)


# All cells, gaps too, as triples (part, head, cell), row by row, in each head by head.
def cells_along(wide):
    told = []
    for part, cells in wide[4]:
        told.extend([(part, head, each) for head, each in zip(wide[3], cells)])
    return told


def unfolded(wide):
    rows = [part + head + each for part, head, each in cells_along(wide) if each is not None]
    return (wide[0] + wide[1] + wide[2], tuple(rows))


def parts_of(wide):
    return tuple([part for part, cells in wide[4]])


# The words of these refusals show no values: Python won't write out a number of some thousand
# figures, as a text of a table may hold, and its own error would go in the refusal's place.
def place_of_head(wide, head):
    if head not in wide[3]:
        raise NoHead("no such head")
    return wide[3].index(head)


def cell(wide, part, head):
    parts = parts_of(wide)
    if part not in parts:
        raise NoPart("no such part")
    place = place_of_head(wide, head)
    cells = wide[4][parts.index(part)][1]
    return cells[place]


def gaps(wide):
    return [(part, head) for part, head, each in cells_along(wide) if each is None]


def cells_filled(cells, filling):
    return tuple([filling if each is None else each for each in cells])


def filled(wide, cell):
    rows = [(part, cells_filled(cells, cell)) for part, cells in wide[4]]
    return wide[:4] + (tuple(rows),)


def cells_under(wide, place):
    return tuple([cells[place] for part, cells in wide[4]])


def has_gaps_alone(cells):
    return all([each is None for each in cells])


def with_heads_at(wide, places):
    rows = [(part, values_at(cells, places)) for part, cells in wide[4]]
    return wide[:3] + (values_at(wide[3], places), tuple(rows))


# A row without heads, or a head without rows, has no cell that is no gap: it goes too, as it
# would if the rows were unfolded and folded anew.
def emptied(wide):
    places = [place for place in range(len(wide[3])) if not has_gaps_alone(cells_under(wide, place))]
    rows = [row for row in wide[4] if not has_gaps_alone(row[1])]
    return with_heads_at(wide[:4] + (tuple(rows),), places)
