"""The refusals: a class for each, all straight under FoldError."""


class FoldError(ValueError):
    pass


class BadColumns(FoldError):
    pass


class BadOrder(FoldError):
    pass


class BadWay(FoldError):
    pass


class NoNumber(FoldError):
    pass


class NoPart(FoldError):
    pass


class NoHead(FoldError):
    pass


class NoRow(FoldError):
    pass


class NoColumn(FoldError):
    def __init__(self, name):
        FoldError.__init__(self, f"no column {name!r}")
        self.name = name


class Double(FoldError):
    def __init__(self, rows):
        FoldError.__init__(self, f"rows {rows!r} agree in key and names")
        self.rows = rows


class BadRow(FoldError):
    def __init__(self, row):
        FoldError.__init__(self, f"row {row!r} is not so written")
        self.row = row
