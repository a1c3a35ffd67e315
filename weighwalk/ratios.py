"""Whole numbers, what divides them, and the fractions made of them."""

from weighwalk.errors import NoWeight


def is_whole(thing):
    # Python counts True and False among its ints; the program doesn't.
    return isinstance(thing, int) and not isinstance(thing, bool)


def divisor(one, other):
    greatest = abs(one)
    rest = abs(other)
    while rest > 0:
        left = greatest % rest
        greatest = rest
        rest = left
    return greatest


def fraction(top, bottom):
    # No refusal names what was handed in: Python won't write out just any number.
    if not is_whole(top) or not is_whole(bottom):
        raise NoWeight("a fraction is made of two whole numbers")
    if bottom == 0:
        raise NoWeight("the second number of a fraction isn't 0")
    shared = divisor(top, bottom)
    # The sign goes into the top, so that each fraction has one tuple alone.
    if bottom < 0:
        shared = -shared
    return (top // shared, bottom // shared)


def is_prime(number):
    if number < 2:
        return False
    factor = 2
    while factor * factor <= number:
        if number % factor == 0:
            return False
        factor = factor + 1
    return True
