"""Questions to tables and to folded tables, with conditions on their rows.

A condition is a tuple (name, word, value); a question a tuple ("rows", conditions) or (word, name, conditions).
"""

from pivotfold.errors import BadWay
from pivotfold.folding import cells_along, first_seen, unfolded
from pivotfold.tables import column, places_of
from pivotfold.values import risen, stands_ahead
from pivotfold.ways import WAYS, put_together

CONDITION_WORDS = ("is", "not", "below", "above")


def columns_of(conditions):
    return [condition[0] for condition in conditions]


def check_words(conditions):
    for condition in conditions:
        if condition[1] not in CONDITION_WORDS:
            raise BadWay("a condition's word is is, not, below or above")


def holds(value, word, told):
    if word == "is":
        return value == told
    if word == "not":
        return value != told
    if word == "below":
        return stands_ahead(value, told)
    return stands_ahead(told, value)


def all_hold(row, places, conditions):
    return all([holds(row[place], each[1], each[2]) for place, each in zip(places, conditions)])


def rows_where(table, conditions):
    places = places_of(table, columns_of(conditions))
    check_words(conditions)
    return [number for number, row in enumerate(table[1]) if all_hold(row, places, conditions)]


def cells_where(wide, conditions):
    # In the order in which unfolded tells their rows, so that a row's number finds its cell.
    pairs = [(part, head) for part, head, each in cells_along(wide) if each is not None]
    return [pairs[number] for number in rows_where(unfolded(wide), conditions)]


def check_question(table, question):
    # Between its word and its conditions stands a question's column, if it has one.
    names = list(question[1:-1])
    # Only asked for its refusal, which goes ahead of that of any word.
    places_of(table, names + columns_of(question[-1]))
    words = WAYS + ("all",) if len(names) > 0 else ("rows",)
    if question[0] not in words:
        raise BadWay("no such question")


def answer(table, question):
    check_question(table, question)
    word = question[0]
    rows = [table[1][number] for number in rows_where(table, question[-1])]
    if word == "rows":
        return rows
    some = column((table[0], rows), question[1])
    if word == "all":
        return risen(first_seen(some))
    return put_together(some, word) if len(some) > 0 else None


def answer_wide(wide, question):
    return answer(unfolded(wide), question)
