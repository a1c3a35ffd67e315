"""What the tests reckon for themselves, without the program's own sums, and machines to try it with."""

import functools
import itertools
from fractions import Fraction

from weighwalk.kinds import Costs, Fractions, Residues, Truths, kind_of

GREATEST = 999983
NO_TEXTS = (None, True, False, 0, 1, 1.5, (), ("a",), ("a", "b"), [], ["a"], {}, {"a": 1}, b"a", object())


class NeverCompared:
    def __eq__(self, other):
        raise AssertionError("compared")


def fields():
    return [Fractions(), Residues(2), Residues(7), Residues(GREATEST)]


def picking():
    return [Costs(), Truths()]


def kinds():
    return fields() + picking()


def same(test, one, other):
    # 1 == True in Python, but not as texts.
    test.assertEqual(one, other)
    test.assertEqual(repr(one), repr(other))


def told_fraction(number):
    return (number.numerator, number.denominator)


def total(kind, weights):
    weights = list(weights)
    if isinstance(kind, Fractions):
        return told_fraction(sum([Fraction(top, bottom) for top, bottom in weights], Fraction(0)))
    if isinstance(kind, Costs):
        return min([x for x in weights if x is not None], default=None)
    if isinstance(kind, Truths):
        return True in weights
    return sum(weights) % kind.prime


def product(kind, weights):
    weights = list(weights)
    if isinstance(kind, Fractions):
        number = Fraction(1)
        for top, bottom in weights:
            number = number * Fraction(top, bottom)
        return told_fraction(number)
    if isinstance(kind, Costs):
        return None if None in weights else sum(weights)
    if isinstance(kind, Truths):
        return False not in weights
    number = 1
    for x in weights:
        number = number * x % kind.prime
    return number


def nought(kind):
    return total(kind, [])


def one(kind):
    return product(kind, [])


def other_than_nought(kind):
    return [x for x in some_weights(kind) if x != nought(kind)]


def some_weights(kind):
    if isinstance(kind, Fractions):
        return [(0, 1), (1, 1), (-1, 2), (2, 3), (-3, 1), (0, 1), (5, 4), (7, 1)]
    if isinstance(kind, Costs):
        return [None, 0, -3, 4, None, 7, -1, 1]
    if isinstance(kind, Truths):
        return [False, True, False]
    return [x % kind.prime for x in (0, 1, -1, 2, 0, 3, 500000, -7)]


def numbers(seed):
    state = seed * 7919 + 17
    while True:
        state = (state * 1103515245 + 12345) % 2 ** 31
        yield state >> 12


def drawn_row(kind, source, size):
    choice = some_weights(kind)
    return tuple([choice[next(source) % len(choice)] for _ in range(size)])


def drawn_table(kind, source, height, width):
    return tuple([drawn_row(kind, source, width) for _ in range(height)])


def drawn(kind, letters, size, seed=1):
    source = numbers(seed)
    start = drawn_row(kind, source, size)
    tables = tuple([drawn_table(kind, source, size, size) for _ in letters])
    return (letters, start, tables, drawn_row(kind, source, size))


def filled(kind, letters, size, weight):
    row = (weight,) * size
    return (letters, row, ((row,) * size,) * len(letters), row)


def all_ways(size, word):
    return list(itertools.product(range(size), repeat=len(word) + 1))


def steps(machine, word, way):
    letters, start, tables, ends = machine
    return [tables[letters.index(word[i])][way[i]][way[i + 1]] for i in range(len(word))]


def walked_way(kind, machine, word, way):
    return product(kind, [machine[1][way[0]]] + steps(machine, word, way) + [machine[3][way[-1]]])


def walked(kind, machine, word):
    size = len(machine[1])
    return total(kind, [walked_way(kind, machine, word, way) for way in all_ways(size, word)])


def walked_ahead(kind, machine, word):
    size = len(machine[1])
    return tuple([
        total(kind, [
            product(kind, [machine[1][way[0]]] + steps(machine, word, way))
            for way in all_ways(size, word) if way[-1] == room
        ])
        for room in range(size)
    ])


def walked_behind(kind, machine, word):
    size = len(machine[1])
    return tuple([
        total(kind, [
            product(kind, steps(machine, word, way) + [machine[3][way[-1]]])
            for way in all_ways(size, word) if way[0] == room
        ])
        for room in range(size)
    ])


def all_words(letters, most):
    return ["".join(signs) for length in range(most + 1) for signs in itertools.product(letters, repeat=length)]


def dotted(kind, row, column):
    return total(kind, [product(kind, pair) for pair in zip(row, column, strict=True)])


def multiplied(kind, first, second):
    return tuple([tuple([dotted(kind, row, column) for column in zip(*second)]) for row in first])


def put_together(kind, weights, rows, width):
    return tuple([
        total(kind, [product(kind, [x, row[place]]) for x, row in zip(weights, rows, strict=True)])
        for place in range(width)
    ])


def row_put(kind, row, table):
    return multiplied(kind, (row,), table)[0]


def column_put(kind, table, column):
    return tuple([dotted(kind, row, column) for row in table])


def corner_to_corner(kind, size):
    return tuple([tuple([one(kind) if r == q else nought(kind) for r in range(size)]) for q in range(size)])


@functools.cache
def weighed_by(name, machine, most):
    kind = kind_of(name)
    letters, start, tables, ends = machine
    rows = {"": start}
    for word in all_words(letters, most)[1:]:
        rows[word] = row_put(kind, rows[word[:-1]], tables[letters.index(word[-1])])
    return {word: dotted(kind, row, ends) for word, row in rows.items()}


def weighed(kind, machine, most):
    # What all words of so many letters weigh, each row of the walk made of a shorter one's;
    # kept, since many tests ask for the same.
    return dict(weighed_by(kind.told(), machine, most))


class Basis:
    def __init__(self, kind):
        self.kind = kind
        self.rows = []

    def number(self, x):
        return Fraction(x[0], x[1]) if isinstance(self.kind, Fractions) else x

    def lowered(self, row):
        return row if isinstance(self.kind, Fractions) else [x % self.kind.prime for x in row]

    def inverse(self, x):
        return 1 / x if isinstance(self.kind, Fractions) else pow(x, -1, self.kind.prime)

    def grows(self, row):
        rest = [self.number(x) for x in row]
        for place, other in self.rows:
            by = rest[place]
            rest = self.lowered([x - by * y for x, y in zip(rest, other, strict=True)])
        for place, x in enumerate(rest):
            if x != 0:
                self.rows.append((place, self.lowered([self.inverse(x) * y for y in rest])))
                return True
        return False


def free_of(kind, rows):
    basis = Basis(kind)
    return [basis.grows(row) for row in rows]


def thinned(kind, letters, size, seed=1):
    # Most steps, and some starts and ends, are taken away.
    source = numbers(seed + 1000)
    letters, start, tables, ends = drawn(kind, letters, size, seed)

    def thin(row, share):
        return tuple([x if next(source) % 6 < share else nought(kind) for x in row])

    return (letters, thin(start, 3), tuple([tuple([thin(row, 2) for row in table]) for table in tables]), thin(ends, 3))


def put_in_order(machine, order):
    letters, start, tables, ends = machine

    def ordered(row):
        return tuple([row[room] for room in order])

    tables = tuple([ordered([ordered(row) for row in table]) for table in tables])
    return (letters, ordered(start), tables, ordered(ends))


def mixed(kind, machine, room, other, by):
    # Another machine that weighs alike: the one room has, beside its own, so many times what the other has.
    letters, start, tables, ends = machine
    minus = product(kind, [by, (-1, 1) if isinstance(kind, Fractions) else kind.prime - 1])

    def less(row):
        row = list(row)
        row[other] = total(kind, [row[other], product(kind, [minus, row[room]])])
        return tuple(row)

    def more(table):
        rows = list(table)
        rows[room] = put_together(kind, [one(kind), by], [rows[room], rows[other]], len(rows))
        return tuple(rows)

    ends = list(ends)
    ends[room] = total(kind, [ends[room], product(kind, [by, ends[other]])])
    return (letters, less(start), tuple([more([less(row) for row in table]) for table in tables]), tuple(ends))


def with_room(machine, start, into, outof, end):
    # A room more, behind the others: into it lead steps of so much, out of it likewise.
    letters, starts, tables, ends = machine
    size = len(starts)
    grown = [tuple([row + (into,) for row in table]) + ((outof,) * (size + 1),) for table in tables]
    return (letters, starts + (start,), tuple(grown), ends + (end,))


def with_room_never_come_to(kind, machine):
    x = other_than_nought(kind)[0]
    return with_room(machine, nought(kind), nought(kind), x, x)


def with_room_that_tells_nothing(kind, machine):
    x = other_than_nought(kind)[-1]
    return with_room(machine, x, x, nought(kind), nought(kind))


def disguised(kind, machine, seed=1):
    # Rooms added, mixed and put in another order: each word weighs what it did.
    source = numbers(seed)
    told = with_room_that_tells_nothing(kind, with_room_never_come_to(kind, machine))
    size = len(told[1])
    choice = other_than_nought(kind)
    for time in range(size):
        room = next(source) % size
        other = (room + 1 + next(source) % (size - 1)) % size
        told = mixed(kind, told, room, other, choice[next(source) % len(choice)])
    return put_in_order(told, sorted(range(size), key=lambda room: (room * 3 + seed) % size))


def shuffled(kind, machine, seed=1):
    # As many rooms, but others.
    source = numbers(seed)
    size = len(machine[1])
    choice = other_than_nought(kind)
    for time in range(2 * size if size > 1 else 0):
        room = next(source) % size
        other = (room + 1 + next(source) % (size - 1)) % size
        machine = mixed(kind, machine, room, other, choice[next(source) % len(choice)])
    return machine


def chain(kind, letters, ends):
    # By the first letter alone from room to room; a word of k such letters weighs the end there.
    size = len(ends)
    rows = [tuple([one(kind) if r == q + 1 else nought(kind) for r in range(size)]) for q in range(size)]
    return (letters, corner_to_corner(kind, size)[0], stepping(kind, letters, rows), tuple(ends))


def ring(kind, letters, ends):
    # The same, but from the last room back to the first.
    size = len(ends)
    rows = [tuple([one(kind) if r == (q + 1) % size else nought(kind) for r in range(size)]) for q in range(size)]
    return (letters, corner_to_corner(kind, size)[0], stepping(kind, letters, rows), tuple(ends))


def stepping(kind, letters, rows):
    none = ((nought(kind),) * len(rows),) * len(rows)
    return (tuple(rows),) + (none,) * (len(letters) - 1)


def without_rooms(letters):
    return (letters, (), ((),) * len(letters), ())


def field_machines(kind):
    told = [without_rooms("a"), without_rooms("ba")]
    for letters, most in (("a", 6), ("b", 3), ("ab", 4), ("ba", 4), ("cab", 3), ("bca", 3)):
        for size in range(1, most + 1):
            told.append(drawn(kind, letters, size, 3 * size + 1))
            told.append(thinned(kind, letters, size, 5 * size + 2))
    for letters, size in (("a", 3), ("ba", 2), ("cab", 2)):
        machine = drawn(kind, letters, size, 11)
        empty = (nought(kind),) * size
        told.append(filled(kind, letters, size, nought(kind)))
        told.append((letters, empty) + machine[2:])
        told.append(machine[:3] + (empty,))
        told.append(with_room_never_come_to(kind, machine))
        told.append(with_room_that_tells_nothing(kind, machine))
    told.append(disguised(kind, drawn(kind, "ba", 2, 4), 3))
    told.append(disguised(kind, drawn(kind, "c", 2, 4), 5))
    told.append(chain(kind, "ba", [nought(kind)] * 3 + [one(kind)]))
    told.append(ring(kind, "a", [one(kind)] + [nought(kind)] * 4))
    return told


def all_lists(thing):
    # Each list within, itself first, as often as it is met.
    told = [thing] if isinstance(thing, list) else []
    if isinstance(thing, (list, tuple)):
        for piece in thing:
            told.extend(all_lists(piece))
    return told


def own(test, told, again):
    # Each list is met once, and none is one of what is told when it is asked for again.
    lists = all_lists(told) + all_lists(again)
    test.assertEqual(len({id(one) for one in lists}), len(lists))


def cuts(word):
    # All ways to cut a word that isn't empty into pieces that aren't.
    told = []
    for count in range(len(word)):
        for places in itertools.combinations(range(1, len(word)), count):
            bounds = (0,) + places + (len(word),)
            told.append([word[i:j] for i, j in zip(bounds, bounds[1:])])
    return told


def parts_of(saying):
    # Itself first, each part ahead of those within it.
    told = [saying]
    for piece in saying[1:]:
        if isinstance(piece, tuple) and isinstance(piece[0], str):
            told.extend(parts_of(piece))
    return told


def height(saying):
    return 1 + max([height(part) for part in parts_of(saying)[1:]], default=0)


def said(kind, saying, word):
    # What a word weighs by a saying, by all cuts and pieces; of its stars it is not asked whether they may be.
    form = saying[0]
    if form == "nil":
        return nought(kind)
    if form == "word":
        return one(kind) if word == saying[1] else nought(kind)
    if form == "times":
        return product(kind, [saying[1], said(kind, saying[2], word)])
    if form == "back":
        return said(kind, saying[1], word[::-1])
    if form == "star":
        pieces = cuts(word) if word else [[]]
        return total(kind, [product(kind, [said(kind, saying[1], piece) for piece in cut]) for cut in pieces])
    if form == "then":
        bounds = [(word[:place], word[place:]) for place in range(len(word) + 1)]
    else:
        bounds = [(word, word)]
    pairs = [[said(kind, saying[1], first), said(kind, saying[2], second)] for first, second in bounds]
    if form == "sum":
        return total(kind, pairs[0])
    return total(kind, [product(kind, pair) for pair in pairs])


def closable(kind, saying):
    stars = [part for part in parts_of(saying) if part[0] == "star"]
    return all([said(kind, star[1], "") == nought(kind) for star in stars])


def drawn_saying(kind, letters, source, high):
    # At most so high; stars and sums the more often, since most else weighs nearly all words nought.
    forms = ("word", "nil") if high == 1 else (
        "sum", "star", "then", "times", "back", "both", "word", "sum", "star", "then", "times", "star", "sum"
    )
    form = forms[next(source) % (len(forms) if high > 1 or next(source) % 5 == 0 else 1)]
    if form == "nil":
        return ("nil",)
    if form == "word":
        return ("word", "".join([letters[next(source) % len(letters)] for _ in range(next(source) % 3)]))
    if form == "times":
        choice = some_weights(kind)
        x = choice[next(source) % len(choice)]
        return ("times", x, drawn_saying(kind, letters, source, high - 1))
    if form in ("back", "star"):
        return (form, drawn_saying(kind, letters, source, high - 1))
    first = drawn_saying(kind, letters, source, high - 1)
    return (form, first, drawn_saying(kind, letters, source, high - 1))


def written(kind, x):
    if isinstance(kind, Fractions):
        return str(Fraction(x[0], x[1]))
    if isinstance(kind, Costs):
        return "none" if x is None else str(x)
    if isinstance(kind, Truths):
        return "yes" if x else "no"
    return str(x)


def written_saying(kind, saying):
    if saying[0] == "nil":
        return "nil"
    if saying[0] == "word":
        return "word " + (saying[1] or "-")
    if saying[0] == "times":
        return "times " + written(kind, saying[1]) + " " + written_saying(kind, saying[2])
    return " ".join([saying[0]] + [written_saying(kind, part) for part in saying[1:]])


def written_machine(kind, machine):
    def row(weights):
        return " ".join([written(kind, x) for x in weights]) or "-"

    tables = [", ".join([row(weights) for weights in table]) or "-" for table in machine[2]]
    return " | ".join([machine[0], row(machine[1])] + tables + [row(machine[3])])


def changed_texts(text):
    # A sign left out, told twice, or another one in its place or ahead of it.
    told = []
    for place in range(len(text)):
        told.append(text[:place] + text[place + 1:])
        for sign in (text[place], " ", "-", "a", "c", "A", "0", "1", "/", "\n", "\t", "|", ",", "w", "\u00a0"):
            told.append(text[:place] + sign + text[place:])
            told.append(text[:place] + sign + text[place + 1:])
    return told + [text + sign for sign in (" ", "\n", "a", " a", " nil", "-", "0")]
