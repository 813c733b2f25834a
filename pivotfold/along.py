"""Folded tables added up along their keys and their heads."""

from pivotfold.errors import NoNumber
from pivotfold.foldby import check_folding, folded_by
from pivotfold.folding import cells_along, first_seen, parts_of, rows_laid_out
from pivotfold.tables import kept
from pivotfold.ways import cells_together, check_ways

ADDED_WAYS = ("sum", "count", "least", "greatest")


def rolled(table, key, names, values, ways, order, deep, far):
    check_folding(table[0], key, names, values, ways, order)
    short_key = list(key[:deep])
    short_names = list(names[:far])
    left = kept(table, short_key + short_names + list(values))
    return folded_by(left, short_key, short_names, values, ways, order)


def way_of_cells(way):
    # What a cell has of a count is a number already; several of them make a sum.
    return "sum" if way == "count" else way


def cells_by_cut(wide, deep, far):
    groups = {}
    for part, head, cell in cells_along(wide):
        if cell is not None:
            groups.setdefault((part[:deep], head[:far]), []).append(cell)
    return groups


def added(wide, ways, deep, far):
    check_ways(ways, len(wide[2]), ADDED_WAYS)
    cell_ways = [way_of_cells(way) for way in ways]
    cells = {}
    for place, some in cells_by_cut(wide, deep, far).items():
        cells[place] = cells_together(some, cell_ways)
    parts = first_seen([part[:deep] for part in parts_of(wide)])
    heads = first_seen([head[:far] for head in wide[3]])
    return (wide[0][:deep], wide[1][:far], wide[2], heads, rows_laid_out(parts, heads, cells))


def margins(wide, ways):
    deep = len(wide[0])
    far = len(wide[1])
    return (added(wide, ways, deep, 0), added(wide, ways, 0, far), added(wide, ways, 0, 0))


def number_of(value):
    if not isinstance(value, int):
        raise NoNumber(f"{value!r} is no number")
    return value


def running_cells(cells, width):
    totals = (0,) * width
    told = []
    for cell in cells:
        if cell is None:
            told.append(None)
        else:
            totals = tuple([total + number_of(value) for total, value in zip(totals, cell)])
            told.append(totals)
    return tuple(told)


def running(wide):
    rows = [(part, running_cells(cells, len(wide[2]))) for part, cells in wide[4]]
    return wide[:4] + (tuple(rows),)
