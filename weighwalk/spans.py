"""Rows as sums of other rows, over a field."""

from weighwalk.errors import WrongKind
from weighwalk.tables import noughts, times_row, unit


def need_field(kind):
    if not kind.is_field():
        raise WrongKind("this is told of fields alone")


def leading(kind, row, width):
    for place in range(width):
        if row[place] != kind.nought():
            return place
    return None


def plus_row(kind, one, other):
    return tuple([kind.plus(x, y) for x, y in zip(one, other)])


def cleared(kind, kept, row):
    # A kept row has nought at the leading places of those kept before it,
    # so that a place once cleared stays so.
    rest = row
    for place, other in kept:
        if rest[place] != kind.nought():
            rest = plus_row(kind, rest, times_row(kind, kind.minus(rest[place]), other))
    return rest


def kept_rows(kind, rows, width):
    kept = []
    for row in rows:
        rest = cleared(kind, kept, row)
        place = leading(kind, rest, width)
        if place is not None:
            kept.append((place, times_row(kind, kind.inverse(rest[place]), rest)))
    return kept


def marked(kind, rows):
    # Behind each row stands of which rows it is the sum: so far, of itself alone.
    return [row + unit(kind, len(rows), place) for place, row in enumerate(rows)]


def parts_by(kind, kept, count, row):
    width = len(row)
    rest = cleared(kind, kept, row + noughts(kind, count))
    if leading(kind, rest, width) is not None:
        return None
    return [kind.minus(x) for x in rest[width:]]


def parts(kind, rows, row):
    need_field(kind)
    kept = kept_rows(kind, marked(kind, rows), len(row))
    return parts_by(kind, kept, len(rows), row)


def rank(kind, rows):
    need_field(kind)
    if len(rows) == 0:
        return 0
    return len(kept_rows(kind, rows, len(rows[0])))


def free(kind, rows):
    return rank(kind, rows) == len(rows)


def inverse_of(kind, table):
    need_field(kind)
    size = len(table)
    kept = kept_rows(kind, marked(kind, table), size)
    if len(kept) < size:
        return None
    return tuple([tuple(parts_by(kind, kept, size, unit(kind, size, place))) for place in range(size)])
