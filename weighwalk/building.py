"""Machines built of machines: sums, products, pieces put end to end."""

from weighwalk.errors import NoClosure, TooGreat, Unlike
from weighwalk.machines import MOST_ROOMS, need_word, rooms, weight
from weighwalk.tables import by_column, columns_of, dot, noughts, row_by, times_row, unit


def need_same_letters(one, other):
    if one[0] != other[0]:
        raise Unlike("both machines have the same letters")


def need_few_rooms(count):
    if count > MOST_ROOMS:
        raise TooGreat("a machine has at most twenty rooms")


def scaled(kind, by, machine):
    need_few_rooms(rooms(machine))
    return (machine[0], times_row(kind, by, machine[1]), machine[2], machine[3])


def beside(kind, first, second, step):
    # The step leads from the first table's rooms to the second one's; none leads back.
    upper = [row + extra for row, extra in zip(first, step)]
    lower = [noughts(kind, len(first)) + row for row in second]
    return tuple(upper + lower)


def put_beside(kind, one, other):
    no_step = [noughts(kind, rooms(other)) for room in range(rooms(one))]
    tables = [beside(kind, first, second, no_step) for first, second in zip(one[2], other[2])]
    return (one[0], one[1] + other[1], tuple(tables), one[3] + other[3])


def added(kind, one, other):
    need_same_letters(one, other)
    need_few_rooms(rooms(one) + rooms(other))
    return put_beside(kind, one, other)


def outer(kind, column, row):
    return tuple([times_row(kind, x, row) for x in column])


def joined(kind, one, other):
    need_same_letters(one, other)
    need_few_rooms(rooms(one) + rooms(other))
    # The second machine's start is gone to with the last letter of the first piece,
    # or, where that piece is empty, at once.
    start = one[1] + times_row(kind, weight(kind, one, ""), other[1])
    tables = []
    for first, second in zip(one[2], other[2]):
        step = outer(kind, by_column(kind, first, one[3]), other[1])
        tables.append(beside(kind, first, second, step))
    return (one[0], start, tuple(tables), noughts(kind, rooms(one)) + other[3])


def cross_row(kind, one, other):
    told = ()
    for x in one:
        told = told + times_row(kind, x, other)
    return told


def cross_table(kind, one, other):
    told = []
    for row in one:
        told.extend([cross_row(kind, row, second) for second in other])
    return tuple(told)


def crossed(kind, one, other):
    need_same_letters(one, other)
    need_few_rooms(rooms(one) * rooms(other))
    start = cross_row(kind, one[1], other[1])
    tables = [cross_table(kind, first, second) for first, second in zip(one[2], other[2])]
    return (one[0], start, tuple(tables), cross_row(kind, one[3], other[3]))


def mirrored(machine):
    tables = [columns_of(table) for table in machine[2]]
    return (machine[0], machine[3], tuple(tables), machine[1])


def turned(kind, machine):
    need_few_rooms(rooms(machine))
    return mirrored(machine)


def closed_table(kind, machine, table):
    # The room ahead of the others is that between two pieces: a piece's first letter leads
    # away from it as from the start, and its last letter back to it as to an end.
    back = by_column(kind, table, machine[3])
    first = (dot(kind, machine[1], back),) + row_by(kind, machine[1], table)
    others = [(x,) + row for x, row in zip(back, table)]
    return tuple([first] + others)


def need_closable(kind, empty_weight):
    if empty_weight != kind.nought():
        raise NoClosure("the empty word weighs nought in what is closed")


def closed(kind, machine):
    need_closable(kind, weight(kind, machine, ""))
    size = rooms(machine) + 1
    need_few_rooms(size)
    tables = [closed_table(kind, machine, table) for table in machine[2]]
    between = unit(kind, size, 0)
    return (machine[0], between, tuple(tables), between)


def single_row(kind, letter, word, place):
    # From the last room no step leads on.
    if place < len(word) and word[place] == letter:
        return unit(kind, len(word) + 1, place + 1)
    return noughts(kind, len(word) + 1)


def single(kind, letters, word, by):
    need_word(letters, word)
    size = len(word) + 1
    need_few_rooms(size)
    tables = []
    for letter in letters:
        tables.append(tuple([single_row(kind, letter, word, place) for place in range(size)]))
    start = times_row(kind, by, unit(kind, size, 0))
    return (letters, start, tuple(tables), unit(kind, size, len(word)))
