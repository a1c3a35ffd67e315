"""What the tests reckon for themselves, without the program's own sums, and machines to try it with."""

import itertools
from fractions import Fraction

from weighwalk.kinds import Costs, Fractions, Residues, Truths

GREATEST = 999983
NO_TEXTS = (None, True, False, 0, 1, 1.5, (), ("a",), ("a", "b"), [], ["a"], {}, {"a": 1}, b"a", object())


class NeverCompared:
    def __eq__(self, other):
        raise AssertionError("compared")


def fields():
    return [Fractions(), Residues(2), Residues(7), Residues(GREATEST)]


def picking():
    return [Costs(), Truths()]


def kinds():
    return fields() + picking()


def same(test, one, other):
    # 1 == True in Python, but not as texts.
    test.assertEqual(one, other)
    test.assertEqual(repr(one), repr(other))


def told_fraction(number):
    return (number.numerator, number.denominator)


def total(kind, weights):
    weights = list(weights)
    if isinstance(kind, Fractions):
        return told_fraction(sum([Fraction(top, bottom) for top, bottom in weights], Fraction(0)))
    if isinstance(kind, Costs):
        return min([x for x in weights if x is not None], default=None)
    if isinstance(kind, Truths):
        return True in weights
    return sum(weights) % kind.prime


def product(kind, weights):
    weights = list(weights)
    if isinstance(kind, Fractions):
        number = Fraction(1)
        for top, bottom in weights:
            number = number * Fraction(top, bottom)
        return told_fraction(number)
    if isinstance(kind, Costs):
        return None if None in weights else sum(weights)
    if isinstance(kind, Truths):
        return False not in weights
    number = 1
    for x in weights:
        number = number * x % kind.prime
    return number


def nought(kind):
    return total(kind, [])


def one(kind):
    return product(kind, [])


def other_than_nought(kind):
    return [x for x in some_weights(kind) if x != nought(kind)]


def some_weights(kind):
    if isinstance(kind, Fractions):
        return [(0, 1), (1, 1), (-1, 2), (2, 3), (-3, 1), (0, 1), (5, 4), (7, 1)]
    if isinstance(kind, Costs):
        return [None, 0, -3, 4, None, 7, -1, 1]
    if isinstance(kind, Truths):
        return [False, True, False]
    return [x % kind.prime for x in (0, 1, -1, 2, 0, 3, 500000, -7)]


def numbers(seed):
    state = seed * 7919 + 17
    while True:
        state = (state * 1103515245 + 12345) % 2 ** 31
        yield state >> 12


def drawn_row(kind, source, size):
    choice = some_weights(kind)
    return tuple([choice[next(source) % len(choice)] for _ in range(size)])


def drawn_table(kind, source, height, width):
    return tuple([drawn_row(kind, source, width) for _ in range(height)])


def drawn(kind, letters, size, seed=1):
    source = numbers(seed)
    start = drawn_row(kind, source, size)
    tables = tuple([drawn_table(kind, source, size, size) for _ in letters])
    return (letters, start, tables, drawn_row(kind, source, size))


def filled(kind, letters, size, weight):
    row = (weight,) * size
    return (letters, row, ((row,) * size,) * len(letters), row)


def all_ways(size, word):
    return list(itertools.product(range(size), repeat=len(word) + 1))


def steps(machine, word, way):
    letters, start, tables, ends = machine
    return [tables[letters.index(word[i])][way[i]][way[i + 1]] for i in range(len(word))]


def walked_way(kind, machine, word, way):
    return product(kind, [machine[1][way[0]]] + steps(machine, word, way) + [machine[3][way[-1]]])


def walked(kind, machine, word):
    size = len(machine[1])
    return total(kind, [walked_way(kind, machine, word, way) for way in all_ways(size, word)])


def walked_ahead(kind, machine, word):
    size = len(machine[1])
    return tuple([
        total(kind, [
            product(kind, [machine[1][way[0]]] + steps(machine, word, way))
            for way in all_ways(size, word) if way[-1] == room
        ])
        for room in range(size)
    ])


def walked_behind(kind, machine, word):
    size = len(machine[1])
    return tuple([
        total(kind, [
            product(kind, steps(machine, word, way) + [machine[3][way[-1]]])
            for way in all_ways(size, word) if way[0] == room
        ])
        for room in range(size)
    ])


def all_words(letters, most):
    return ["".join(signs) for length in range(most + 1) for signs in itertools.product(letters, repeat=length)]


def dotted(kind, row, column):
    return total(kind, [product(kind, pair) for pair in zip(row, column, strict=True)])


def multiplied(kind, first, second):
    return tuple([tuple([dotted(kind, row, column) for column in zip(*second)]) for row in first])
