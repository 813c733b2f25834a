"""Folded tables that are kept while rows come and go."""

from pivotfold.errors import NoRow
from pivotfold.foldby import check_folding, folded_by
from pivotfold.tables import values_at
from pivotfold.ways import cells_together


def change_of(place, old, new):
    return [] if old == new else [(place[0], place[1], old, new)]


class Keeper:
    def __init__(self, columns, key, names, values, ways, order):
        check_folding(columns, key, names, values, ways, order)
        self.columns = tuple(columns)
        self.key = tuple(key)
        self.names = tuple(names)
        self.cell_names = tuple(values)
        self.ways = tuple(ways)
        self.order = order
        self.rows = {}
        self.next_number = 0
        # Pairs (number, row) of what is still done: the row that was taken, None where one was put.
        self.done = []

    def values_in(self, row, names):
        return values_at(row, [self.columns.index(name) for name in names])

    def place_of_row(self, row):
        return (self.values_in(row, self.key), self.values_in(row, self.names))

    def numbers_at(self, place):
        return [number for number in sorted(self.rows) if self.place_of_row(self.rows[number]) == place]

    def cell_at(self, place):
        cells = [self.values_in(self.rows[number], self.cell_names) for number in self.numbers_at(place)]
        return cells_together(cells, self.ways) if len(cells) > 0 else None

    def let_in(self, number, row):
        place = self.place_of_row(row)
        old = self.cell_at(place)
        self.rows[number] = row
        return change_of(place, old, self.cell_at(place))

    def let_out(self, number):
        place = self.place_of_row(self.rows[number])
        old = self.cell_at(place)
        self.rows.pop(number)
        return change_of(place, old, self.cell_at(place))

    def put_row(self, row):
        # Put together by itself ahead of all else: a text in a sum is refused while nothing is changed.
        cells_together([self.values_in(row, self.cell_names)], self.ways)
        number = self.next_number
        self.next_number = number + 1
        self.done.append((number, None))
        return (number, self.let_in(number, tuple(row)))

    def take_row(self, number):
        if number not in self.rows:
            raise NoRow("no row of this number")
        self.done.append((number, self.rows[number]))
        return self.let_out(number)

    def undo(self):
        if len(self.done) == 0:
            return None
        last = self.done.pop()
        if last[1] is not None:
            return self.let_in(last[0], last[1])
        self.next_number = last[0]
        return self.let_out(last[0])

    def wide_now(self):
        rows = tuple([row for number, row in self.rows_now()])
        return folded_by((self.columns, rows), self.key, self.names, self.cell_names, self.ways, self.order)

    def rows_now(self):
        return [(number, self.rows[number]) for number in sorted(self.rows)]

    def rows_of(self, part, head):
        return tuple(self.numbers_at((part, head)))
