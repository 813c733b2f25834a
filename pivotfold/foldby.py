"""Tables folded with their doubles put together, and the rows that each cell came from."""

from pivotfold.errors import BadColumns
from pivotfold.folding import check_all_columns, check_order, heads_seen, is_pair, is_wide
from pivotfold.folding import laid_out, parts_of, parts_seen, rows_by_place, rows_laid_out
from pivotfold.tables import is_row, places_of, values_at
from pivotfold.ways import WAYS, cells_together, check_ways


def check_folding(columns, key, names, values, ways, order):
    check_all_columns(columns, key, names, values)
    check_order(order)
    check_ways(ways, len(values), WAYS)


def cells_by_place(table, values, ways, groups):
    value_places = places_of(table, values)
    cells = {}
    for place, numbers in groups.items():
        some = [values_at(table[1][number], value_places) for number in numbers]
        cells[place] = cells_together(some, ways)
    return cells


def folded_by(table, key, names, values, ways, order):
    check_folding(table[0], key, names, values, ways, order)
    groups = rows_by_place(table, key, names)
    heads = heads_seen(groups, order)
    rows = rows_laid_out(parts_seen(groups), heads, cells_by_place(table, values, ways, groups))
    return (tuple(key), tuple(names), tuple(values), heads, rows)


def check_some_columns(columns, some):
    for name in some:
        if name not in columns:
            raise BadColumns(f"no column {name!r}")
        if some.count(name) > 1:
            raise BadColumns(f"column {name!r} is there twice")


def sources_laid_out(parts, heads, groups):
    numbers_there = {}
    for place, numbers in groups.items():
        numbers_there[place] = tuple(numbers)
    return laid_out(parts, heads, numbers_there, ())


def sources(table, key, names, order):
    check_some_columns(table[0], list(key) + list(names))
    check_order(order)
    groups = rows_by_place(table, key, names)
    return sources_laid_out(parts_seen(groups), heads_seen(groups, order), groups)


def has_values_alone(laid):
    # Python takes (True,) and (1,) for the same; only their kinds tell them apart.
    for row in laid:
        if not all([is_row(numbers, len(numbers)) for numbers in row]):
            return False
    return True


def shows_folded(table, key, names, values, ways, thing):
    if not is_pair(thing) or not is_wide(thing[0]):
        return False
    parts = parts_of(thing[0])
    heads = thing[0][3]
    groups = rows_by_place(table, key, names)
    # The same parts and heads as the rows have: so no row is left out, and none has gaps alone.
    if set(parts) != set(parts_seen(groups)) or set(heads) != set(heads_seen(groups, "seen")):
        return False
    rows = rows_laid_out(parts, heads, cells_by_place(table, values, ways, groups))
    wide = (tuple(key), tuple(names), tuple(values), heads, rows)
    return thing == (wide, sources_laid_out(parts, heads, groups)) and has_values_alone(thing[1])
