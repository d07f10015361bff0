"""Numbers and sizes in bodies, number by number (10)."""

BASE = 256
# From here on a size is told by two numbers, the first of them from here on, too.
FIRST_LONG_SIZE = 200


def digits_of(number):
    """The digits of a number to the base of bodies, the greatest first, none of 0."""
    digits = []
    while number > 0:
        number, digit = divmod(number, BASE)
        digits.append(digit)
    return digits[::-1]


def told_size(size):
    """The numbers that tell a size."""
    if size < FIRST_LONG_SIZE:
        return [size]
    return [FIRST_LONG_SIZE + size // BASE, size % BASE]


def part_size(size):
    """How many numbers a list's content has for a value whose content has this size."""
    return len(told_size(size)) + size


def field_size(size):
    """How many numbers a record's content has for a field whose content has this size."""
    return 2 + part_size(size)
