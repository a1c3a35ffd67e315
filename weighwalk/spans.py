"""Rows as sums of other rows, over a field."""

from weighwalk.errors import WrongKind
from weighwalk.tables import noughts, times_row, unit


def need_field(kind):
    if not kind.is_field():
        raise WrongKind("this is told of fields alone")


def leading(kind, row, width):
    for place in range(width):
        if row[place] != kind.nought():
            return place
    return None


def plus_row(kind, one, other):
    return tuple([kind.plus(x, y) for x, y in zip(one, other)])


def cleared(kind, kept, row):
    # A kept row has nought at the leading places of those kept before it,
    # so that a place once cleared stays so.
    rest = row
    for place, other in kept:
        if rest[place] != kind.nought():
            rest = plus_row(kind, rest, times_row(kind, kind.minus(rest[place]), other))
    return rest


def keep(kind, kept, row, width):
    # Beside as many kept rows as there are places, any row is a sum of them.
    if len(kept) == width:
        return False
    rest = cleared(kind, kept, row)
    place = leading(kind, rest, width)
    if place is None:
        return False
    kept.append((place, times_row(kind, kind.inverse(rest[place]), rest)))
    return True


def kept_rows(kind, rows, width):
    kept = []
    for row in rows:
        keep(kind, kept, row, width)
    return kept


def width_of(rows):
    return len(rows[0]) if len(rows) > 0 else 0


def echelon(kind, rows):
    # Each of these rows has nought at the leading places of all the others: so a sum of them
    # has, at each leading place, the weight by which that row is in it.
    told = []
    for place, row in reversed(kept_rows(kind, rows, width_of(rows))):
        told.append((place, cleared(kind, told, row)))
    return sorted(told, key=lambda pair: pair[0])


def marked(kind, rows):
    # Behind each row stands of which rows it is the sum: so far, of itself alone.
    return [row + unit(kind, len(rows), place) for place, row in enumerate(rows)]


def kept_marked(kind, rows):
    return kept_rows(kind, marked(kind, rows), width_of(rows))


def parts_by(kind, kept, count, row):
    width = len(row)
    rest = cleared(kind, kept, row + noughts(kind, count))
    if leading(kind, rest, width) is not None:
        return None
    return [kind.minus(x) for x in rest[width:]]


def parts(kind, rows, row):
    need_field(kind)
    return parts_by(kind, kept_marked(kind, rows), len(rows), row)


def rank(kind, rows):
    need_field(kind)
    return len(kept_rows(kind, rows, width_of(rows)))


def free(kind, rows):
    return rank(kind, rows) == len(rows)


def inverse_of(kind, table):
    need_field(kind)
    size = len(table)
    kept = kept_marked(kind, table)
    if len(kept) < size:
        return None
    return tuple([tuple(parts_by(kind, kept, size, unit(kind, size, place))) for place in range(size)])
