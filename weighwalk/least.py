"""The least machine of a machine over a field, and the paper that shows that none is less."""

from weighwalk.building import mirrored
from weighwalk.machines import ahead, behind
from weighwalk.spans import echelon, inverse_of, keep, kept_marked, need_field, parts_by
from weighwalk.tables import by_column, by_table, dot, row_by, unit


def free_words(kind, first, grown):
    # Where a word's row is a sum of earlier ones, it is so with a letter more too, by the same weights:
    # such a word is not grown.
    kept = []
    told = []
    last = [("", first)]
    while len(last) > 0:
        fresh = []
        for pair in last:
            if keep(kind, kept, pair[1], len(first)):
                fresh.append(pair)
        told.extend(fresh)
        last = grown(fresh)
    return told


def with_letter_behind(kind, machine, last):
    told = []
    for word, row in last:
        told.extend([(word + letter, row_by(kind, row, table)) for letter, table in zip(machine[0], machine[2])])
    return told


def with_letter_ahead(kind, machine, last):
    # The letter goes first, or the words would not rise in their order.
    told = []
    for letter, table in zip(machine[0], machine[2]):
        told.extend([(letter + word, by_column(kind, table, column)) for word, column in last])
    return told


def free_ahead(kind, machine):
    return free_words(kind, machine[1], lambda last: with_letter_behind(kind, machine, last))


def free_behind(kind, machine):
    return free_words(kind, machine[3], lambda last: with_letter_ahead(kind, machine, last))


def at_places(row, places):
    return tuple([row[place] for place in places])


def narrowed(kind, machine, kept):
    # The kept rows become the rooms: the start, and each of them by each table, is a sum of them.
    places = [place for place, row in kept]
    rows = tuple([row for place, row in kept])
    tables = []
    for table in machine[2]:
        tables.append(tuple([at_places(row, places) for row in by_table(kind, rows, table)]))
    return (machine[0], at_places(machine[1], places), tuple(tables), by_column(kind, rows, machine[3]))


def come_to(kind, machine):
    # The rows ahead of words span all rows then: so columns behind are sums of one another
    # just where the columns of the words, long without end, are.
    rows = [row for word, row in free_ahead(kind, machine)]
    return narrowed(kind, machine, echelon(kind, rows))


def told_apart(kind, machine):
    # The same for rows: now the columns behind words span all columns.
    return mirrored(come_to(kind, mirrored(machine)))


def heads(kind, machine):
    need_field(kind)
    return [word for word, row in free_ahead(kind, told_apart(kind, machine))]


def tails(kind, machine):
    need_field(kind)
    return [word for word, column in free_behind(kind, come_to(kind, machine))]


def least_of(kind, letters, rows, longer_rows, ends):
    # For each letter there is a list of the rows of the heads with that letter behind.
    kept = kept_marked(kind, rows)
    tables = []
    for others in longer_rows:
        tables.append(tuple([tuple(parts_by(kind, kept, len(rows), row)) for row in others]))
    return (letters, unit(kind, len(rows), 0), tuple(tables), ends)


def least(kind, machine):
    need_field(kind)
    narrow = told_apart(kind, machine)
    rows = tuple([row for word, row in free_ahead(kind, narrow)])
    longer_rows = [by_table(kind, rows, table) for table in narrow[2]]
    return least_of(kind, machine[0], rows, longer_rows, by_column(kind, rows, narrow[3]))


def paper(kind, machine):
    first = heads(kind, machine)
    last = tails(kind, machine)
    columns = [behind(kind, machine, word) for word in last]
    rows = []
    for word in first:
        row = ahead(kind, machine, word)
        rows.append(tuple([dot(kind, row, column) for column in columns]))
    table = tuple(rows)
    return (first, last, table, inverse_of(kind, table))
