"""Machines, the words they read, and what words and ways weigh."""

from weighwalk.errors import NoWord, TooGreat, WrongKind
from weighwalk.tables import by_column, dot, row_by, times_row

SMALL_LETTERS = "abcdefghijklmnopqrstuvwxyz"
MOST_LETTERS = 3
MOST_ROOMS = 20
MOST_WAYS = 1000


def is_letters(thing):
    if not isinstance(thing, str) or not 1 <= len(thing) <= MOST_LETTERS:
        return False
    return len(set(thing)) == len(thing) and all([sign in SMALL_LETTERS for sign in thing])


def is_word(letters, thing):
    return isinstance(thing, str) and all([sign in letters for sign in thing])


def need_word(letters, thing):
    if not is_word(letters, thing):
        raise NoWord("a word is a text of the letters alone")


def is_row(kind, size, thing):
    if not isinstance(thing, tuple) or len(thing) != size:
        return False
    return all([kind.is_weight(x) for x in thing])


def is_table(kind, size, thing):
    if not isinstance(thing, tuple) or len(thing) != size:
        return False
    return all([is_row(kind, size, row) for row in thing])


def is_machine(kind, thing):
    if not isinstance(thing, tuple) or len(thing) != 4 or not is_letters(thing[0]):
        return False
    start = thing[1]
    tables = thing[2]
    if not isinstance(start, tuple) or len(start) > MOST_ROOMS:
        return False
    if not isinstance(tables, tuple) or len(tables) != len(thing[0]):
        return False
    size = len(start)
    if not is_row(kind, size, start) or not is_row(kind, size, thing[3]):
        return False
    return all([is_table(kind, size, table) for table in tables])


def rooms(machine):
    return len(machine[1])


def table_of(machine, letter):
    return machine[2][machine[0].index(letter)]


def longer(shorter, pieces):
    # Both words and ways grow so, words by letters, ways by tuples of a room.
    told = []
    for one in shorter:
        told.extend([one + piece for piece in pieces])
    return told


def words(letters, most):
    if most < 0:
        return []
    told = [""]
    last = [""]
    for length in range(most):
        last = longer(last, letters)
        told.extend(last)
    return told


def ahead(kind, machine, word):
    need_word(machine[0], word)
    row = machine[1]
    for letter in word:
        row = row_by(kind, row, table_of(machine, letter))
    return row


def all_behind(kind, machine, word):
    column = machine[3]
    told = [column]
    for letter in reversed(word):
        column = by_column(kind, table_of(machine, letter), column)
        told.append(column)
    return list(reversed(told))


def behind(kind, machine, word):
    need_word(machine[0], word)
    return all_behind(kind, machine, word)[0]


def weight(kind, machine, word):
    return dot(kind, ahead(kind, machine, word), machine[3])


def way_weight(kind, machine, word, way):
    need_word(machine[0], word)
    product = machine[1][way[0]]
    for place, letter in enumerate(word):
        step = table_of(machine, letter)[way[place]][way[place + 1]]
        product = kind.times(product, step)
    return kind.times(product, machine[3][way[-1]])


def all_ways(size, length):
    steps = [(room,) for room in range(size)]
    told = [()]
    for place in range(length):
        told = longer(told, steps)
    return told


def need_few_ways(size, length):
    count = 1
    for place in range(length):
        count = count * size
    if count > MOST_WAYS:
        raise TooGreat("there are more than 1000 ways")


def ways(kind, machine, word):
    need_word(machine[0], word)
    size = rooms(machine)
    need_few_ways(size, len(word) + 1)
    weighed = [(way, way_weight(kind, machine, word, way)) for way in all_ways(size, len(word) + 1)]
    return [pair for pair in weighed if pair[1] != kind.nought()]


def first_room(kind, row, column, goal):
    return min([room for room in range(len(row)) if kind.times(row[room], column[room]) == goal])


def best_way(kind, machine, word):
    if not kind.picks():
        raise WrongKind("only a kind that picks has a best way")
    need_word(machine[0], word)
    later = all_behind(kind, machine, word)
    row = machine[1]
    best = dot(kind, row, later[0])
    if best == kind.nought():
        return None
    way = ()
    for place, letter in enumerate(word):
        # The row has, for each room, what the way so far weighs with a step to it.
        room = first_room(kind, row, later[place], best)
        way = way + (room,)
        row = times_row(kind, row[room], table_of(machine, letter)[room])
    return way + (first_room(kind, row, later[-1], best),)
