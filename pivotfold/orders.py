"""Folded tables with their heads and their parts in other orders."""

from pivotfold.errors import BadOrder, NoColumn
from pivotfold.folding import cells_under, is_pair, parts_of, place_of_head, with_heads_at
from pivotfold.values import rank, risen


def is_told_order(order):
    return is_pair(order) and order[0] == "told" and isinstance(order[1], (list, tuple))


def in_told_order(things, told):
    first = [thing for thing in things if thing in told]
    others = [thing for thing in things if thing not in told]
    return sorted(first, key=lambda thing: told.index(thing)) + others


def in_order(things, order):
    if order == "seen":
        return list(things)
    if order == "rising":
        return risen(things)
    if order == "falling":
        return list(reversed(risen(things)))
    if is_told_order(order):
        return in_told_order(things, order[1])
    raise BadOrder("an order is seen, rising, falling or told")


def heads_in(wide, order):
    heads = wide[3]
    return with_heads_at(wide, [heads.index(head) for head in in_order(heads, order)])


def parts_in(wide, order):
    cells = dict(wide[4])
    rows = [(part, cells[part]) for part in in_order(parts_of(wide), order)]
    return wide[:4] + (tuple(rows),)


def rank_in_cell(cell, place):
    # A tuple stands ahead of those that go on from it, so () for a gap stands even ahead of None.
    return rank(() if cell is None else (cell[place],))


def parts_by(wide, head, name):
    head_place = place_of_head(wide, head)
    if name not in wide[2]:
        raise NoColumn(name)
    place = wide[2].index(name)
    rows = sorted(wide[4], key=lambda row: rank_in_cell(row[1][head_place], place))
    return wide[:4] + (tuple(rows),)


def exchanged(wide):
    rows = [(head, cells_under(wide, place)) for place, head in enumerate(wide[3])]
    return (wide[1], wide[0], wide[2], parts_of(wide), tuple(rows))
