"""Values, turned to codes and back.

A value tells just its leaves that are there, in order: a maybe's 0 or 1 and
a one's alternative are their tags. So it is gone through leaf by leaf.
"""

from leafvalues.faults import NoValue


def is_there(leaf, codes):
    """Whether all guards of the leaf are so; the tags stand ahead of it, so their codes are known."""
    return all([codes[tag] == code for tag, code in leaf.guards])


def codes_of(leaves, value):
    """The codes of all leaves, -1 for one that is not there; the list has to be a value."""
    codes = []
    used = 0
    for leaf in leaves:
        if not is_there(leaf, codes):
            codes.append(-1)
            continue
        if used == len(value) or not leaf.least <= value[used] <= leaf.greatest:
            raise NoValue()
        codes.append(value[used] - leaf.least)
        used += 1
    if used < len(value):
        raise NoValue()
    return codes


def value_of(leaves, codes):
    """The value that has these codes; the list has to be the codes of one."""
    if len(codes) != len(leaves):
        raise NoValue()
    value = []
    for leaf, code in zip(leaves, codes):
        if not is_there(leaf, codes):
            if code != -1:
                raise NoValue()
        elif 0 <= code <= leaf.greatest_code():
            value.append(leaf.least + code)
        else:
            raise NoValue()
    return value
