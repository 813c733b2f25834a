"""The ways in which several values are put together into one."""

from pivotfold.errors import BadWay, NoNumber
from pivotfold.values import rank


def sum_of(numbers):
    if any([isinstance(number, str) for number in numbers]):
        raise NoNumber("a text is no part of a sum")
    return sum(numbers)


def put_together(some, way):
    if way == "first":
        return some[0]
    if way == "last":
        return some[-1]
    there = [value for value in some if value is not None]
    if way == "sum":
        return sum_of(there)
    if way == "count":
        return len(there)
    if way == "least":
        return min(there, key=rank, default=None)
    if way == "greatest":
        return max(there, key=rank, default=None)
    if way == "unlike":
        return len(set(there))
    raise BadWay(f"no way {way!r}")
