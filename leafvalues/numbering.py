"""The values of several parts, one behind the other, counted and numbered.

The last part changes fastest. So the number of such a value is told by the
numbers of its parts' values, as by digits, the first one weighing most.
"""


def width_for(greatest):
    """The least number of bits for all numbers from 0 to this one: at least 1, also for the 0 alone."""
    return max(1, greatest.bit_length())


def count_row(parts):
    count = 1
    for part in parts:
        count *= part.value_count()
    return count


def tell_row(parts, number, told):
    """Puts the numbers that tell the value with this number behind those told so far."""
    weight = count_row(parts)
    for part in parts:
        weight //= part.value_count()
        part.tell(number // weight, told)
        number %= weight


def number_row(parts, codes, start):
    """The number of the value that has these codes, with the leaves of the parts from start on."""
    number = 0
    for part in parts:
        number = number * part.value_count() + part.number_of(codes, start)
        start += part.leaf_count()
    return number
