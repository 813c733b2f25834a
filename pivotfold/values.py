"""Values: numbers, texts and None, and how they rise."""


def has_plain_signs(text):
    return all([" " <= sign and sign <= "~" for sign in text])


def is_value(thing):
    # Python takes True and False for whole numbers; here they are none.
    if isinstance(thing, bool):
        return False
    if isinstance(thing, str):
        return has_plain_signs(thing)
    return thing is None or isinstance(thing, int)


# Values of unlike kinds can't be compared as they are. The kind's place stands
# ahead of the value, so that Python only ever compares two of one kind; tuples
# of values rise by the same ranks, so that rows can be put in order too.
def rank(value):
    if value is None:
        return (0, 0)
    if isinstance(value, int):
        return (1, value)
    if isinstance(value, str):
        return (2, value)
    return (3, tuple([rank(each) for each in value]))


def stands_ahead(one, other):
    return rank(one) < rank(other)


def risen(values):
    return sorted(values, key=rank)
