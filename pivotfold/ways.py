"""The ways in which several values are put together into one."""

from pivotfold.errors import BadWay, NoNumber
from pivotfold.values import rank

WAYS = ("first", "last", "sum", "count", "least", "greatest", "unlike")


def check_ways(ways, many, allowed):
    if len(ways) != many:
        raise BadWay("not a way for each column of values")
    for way in ways:
        if way not in allowed:
            raise BadWay(f"no way {way!r}")


def sum_of(numbers):
    if any([isinstance(number, str) for number in numbers]):
        raise NoNumber("a text is no part of a sum")
    return sum(numbers)


def put_together(some, way):
    if way == "first":
        return some[0]
    if way == "last":
        return some[-1]
    there = [value for value in some if value is not None]
    if way == "sum":
        return sum_of(there)
    if way == "count":
        return len(there)
    if way == "least":
        return min(there, key=rank, default=None)
    if way == "greatest":
        return max(there, key=rank, default=None)
    if way == "unlike":
        return len(set(there))
    raise BadWay(f"no way {way!r}")


def column_together(cells, place, way):
    return put_together([cell[place] for cell in cells], way)


def cells_together(cells, ways):
    return tuple([column_together(cells, place, way) for place, way in enumerate(ways)])
