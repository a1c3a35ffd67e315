"""Machines written as texts, and read from them."""

from weighwalk.errors import NoText
from weighwalk.kinds import need_text
from weighwalk.machines import MOST_ROOMS, is_letters

NO_ROOMS = "-"


def shown_row(kind, row):
    return " ".join([kind.shown(x) for x in row]) if len(row) > 0 else NO_ROOMS


def shown_table(kind, table):
    return ", ".join([shown_row(kind, row) for row in table]) if len(table) > 0 else NO_ROOMS


def shown_machine(kind, machine):
    tables = [shown_table(kind, table) for table in machine[2]]
    return " | ".join([machine[0], shown_row(kind, machine[1])] + tables + [shown_row(kind, machine[3])])


def read_row(kind, text):
    if text == NO_ROOMS:
        return ()
    return tuple([kind.read(piece) for piece in text.split(" ")])


def read_row_of(kind, size, text):
    row = read_row(kind, text)
    if len(row) != size:
        raise NoText("a row has a place for each room")
    return row


def read_table(kind, size, text):
    if size == 0 and text == NO_ROOMS:
        return ()
    rows = text.split(", ")
    if len(rows) != size:
        raise NoText("a table has a row for each room")
    return tuple([read_row_of(kind, size, row) for row in rows])


def read_machine(kind, text):
    need_text(text)
    pieces = text.split(" | ")
    letters = pieces[0]
    if not is_letters(letters) or len(pieces) != len(letters) + 3:
        raise NoText("a machine is its letters, its start, a table for each letter, its ends")
    start = read_row(kind, pieces[1])
    size = len(start)
    if size > MOST_ROOMS:
        raise NoText("a machine has at most twenty rooms")
    tables = tuple([read_table(kind, size, piece) for piece in pieces[2:-1]])
    return (letters, start, tables, read_row_of(kind, size, pieces[-1]))
