"""Tables and folded tables written as texts, and read back."""

from pivotfold.errors import BadRow
from pivotfold.folding import are_wide_columns
from pivotfold.tables import are_columns
from pivotfold.values import is_value

FIGURES = "0123456789"
# Python reads and writes no number of more than some thousand figures at once, but a row of a
# text may hold one: so numbers go piece by piece.
FIGURES_AT_ONCE = 64


def one_with_noughts(many):
    return int("1" + "0" * many)


def number_written(number):
    if number < 0:
        return "-" + number_written(-number)
    base = one_with_noughts(FIGURES_AT_ONCE)
    pieces = []
    left = number
    while left >= base:
        pieces.append(str(left % base).zfill(FIGURES_AT_ONCE))
        left = left // base
    pieces.append(str(left))
    return "".join(reversed(pieces))


def text_written(text):
    marked = text.replace("\\", "\\\\").replace("'", "\\'")
    return "'" + marked + "'"


def value_written(value):
    if value is None:
        return "-"
    if isinstance(value, str):
        return text_written(value)
    return number_written(value)


def row_written(word, values):
    return " ".join([word] + [value_written(value) for value in values])


def table_text(table):
    first = " ".join(("table",) + table[0])
    return "\n".join([first] + [row_written("row", row) for row in table[1]])


def cell_written(cell):
    return ": _" if cell is None else row_written(":", cell)


def part_written(part, cells):
    return " ".join([row_written("part", part)] + [cell_written(cell) for cell in cells])


def wide_text(wide):
    first = " ".join(("wide",) + wide[0] + ("/",) + wide[1] + ("/",) + wide[2])
    heads = [row_written("head", head) for head in wide[3]]
    return "\n".join([first] + heads + [part_written(part, cells) for part, cells in wide[4]])


def check_row(right, row_number):
    if not right:
        raise BadRow(row_number)


# What stands in a row, parted by blanks; a blank within a text parts nothing. Joined by one blank,
# the pieces are the row again, so that a blank too many leaves a piece without signs.
def pieces_of(row):
    pieces = []
    start = 0
    within = False
    marked = False
    for place, sign in enumerate(row):
        if sign == " " and not within:
            pieces.append(row[start:place])
            start = place + 1
        elif sign == "'" and not marked:
            within = not within
        marked = sign == "\\" and not marked
    pieces.append(row[start:])
    return pieces


def text_read(piece, row_number):
    text = piece[1:-1].replace("\\'", "'").replace("\\\\", "\\")
    # Written otherwise than the text so read, the piece was not written as a text is.
    check_row(is_value(text) and text_written(text) == piece, row_number)
    return text


def number_of_figures(figures):
    told = 0
    for start in range(0, len(figures), FIGURES_AT_ONCE):
        piece = figures[start:start + FIGURES_AT_ONCE]
        told = told * one_with_noughts(len(piece)) + int(piece)
    return told


def number_read(piece, row_number):
    figures = piece[1:] if piece.startswith("-") else piece
    check_row(figures != "" and all([sign in FIGURES for sign in figures]), row_number)
    check_row(piece == "0" or not figures.startswith("0"), row_number)
    told = number_of_figures(figures)
    return -told if piece.startswith("-") else told


def value_read(piece, row_number):
    if piece == "-":
        return None
    if piece.startswith("'"):
        return text_read(piece, row_number)
    return number_read(piece, row_number)


def values_read(pieces, width, row_number):
    check_row(len(pieces) == width, row_number)
    return tuple([value_read(piece, row_number) for piece in pieces])


def rows_in_pieces(text):
    return [pieces_of(row) for row in text.split("\n")]


def table_from(text):
    lines = rows_in_pieces(text)
    columns = tuple(lines[0][1:])
    check_row(lines[0][0] == "table" and are_columns(columns), 0)
    rows = []
    for row_number, pieces in enumerate(lines[1:], start=1):
        check_row(pieces[0] == "row", row_number)
        rows.append(values_read(pieces[1:], len(columns), row_number))
    return (columns, tuple(rows))


def between(pieces, mark):
    groups = [[]]
    for piece in pieces:
        if piece == mark:
            groups.append([])
        else:
            groups[-1].append(piece)
    return groups


def wide_columns_read(pieces):
    groups = [tuple(group) for group in between(pieces[1:], "/")]
    check_row(pieces[0] == "wide" and len(groups) == 3, 0)
    check_row(are_wide_columns(groups[0], groups[1], groups[2]), 0)
    return groups


def cell_read(pieces, width, row_number):
    return None if pieces == ["_"] else values_read(pieces, width, row_number)


def part_read(pieces, columns, many, row_number):
    groups = between(pieces[1:], ":")
    check_row(pieces[0] == "part" and len(groups) == 1 + many, row_number)
    part = values_read(groups[0], len(columns[0]), row_number)
    cells = [cell_read(group, len(columns[2]), row_number) for group in groups[1:]]
    return (part, tuple(cells))


def wide_from(text):
    lines = rows_in_pieces(text)
    columns = wide_columns_read(lines[0])
    heads = {}
    rows = {}
    for row_number, pieces in enumerate(lines[1:], start=1):
        if pieces[0] == "head" and len(rows) == 0:
            head = values_read(pieces[1:], len(columns[1]), row_number)
            check_row(head not in heads, row_number)
            heads[head] = True
        else:
            row = part_read(pieces, columns, len(heads), row_number)
            check_row(row[0] not in rows, row_number)
            rows[row[0]] = row[1]
    return (columns[0], columns[1], columns[2], tuple(heads), tuple(rows.items()))
