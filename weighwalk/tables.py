"""Rows, columns and tables of weights, and their products."""


def noughts(kind, size):
    return tuple([kind.nought() for place in range(size)])


def unit(kind, size, place):
    return tuple([kind.one() if other == place else kind.nought() for other in range(size)])


def times_row(kind, by, row):
    return tuple([kind.times(by, x) for x in row])


def column_at(table, place):
    return tuple([row[place] for row in table])


def columns_of(table):
    # Of no rows it can't be seen how wide they would be: there are no columns then.
    if len(table) == 0:
        return ()
    return tuple([column_at(table, place) for place in range(len(table[0]))])


def dot(kind, row, column):
    total = kind.nought()
    for x, y in zip(row, column):
        total = kind.plus(total, kind.times(x, y))
    return total


def row_by(kind, row, table):
    return tuple([dot(kind, row, column) for column in columns_of(table)])


def by_column(kind, table, column):
    return tuple([dot(kind, row, column) for row in table])


def by_table(kind, one, other):
    return tuple([row_by(kind, row, other) for row in one])
