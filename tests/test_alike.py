import unittest

from reckoned import (
    all_words, chain, corner_to_corner, column_put, disguised, dotted, drawn, field_machines, fields, filled, free_of,
    multiplied, nought, one, other_than_nought, own, picking, put_in_order, put_together, ring, row_put, same, shuffled,
    thinned, total, weighed, with_room_never_come_to, with_room_that_tells_nothing, without_rooms,
)
from weighwalk.alike import alike, turning
from weighwalk.building import added, scaled, single
from weighwalk.errors import Unlike, WrongKind
from weighwalk.kinds import Fractions, Residues
from weighwalk.least import heads, least


def weights_of(kind, machine, other):
    most = len(machine[1]) + len(other[1]) - 1
    return weighed(kind, machine, most), weighed(kind, other, most)


def first_unlike(kind, machine, other):
    left, right = weights_of(kind, machine, other)
    return next((word for word in all_words(machine[0], len(machine[1]) + len(other[1]) - 1)
                 if left[word] != right[word]), None)


def changed(kind, row, place, by):
    return row[:place] + (total(kind, [row[place], by]),) + row[place + 1:]


def with_one_weight_changed(kind, machine):
    # Each machine that differs from it at one of some places by one.
    letters, start, tables, ends = machine
    last = len(start) - 1
    for place in {0, last}:
        yield (letters, changed(kind, start, place, one(kind)), tables, ends)
        yield (letters, start, tables, changed(kind, ends, place, one(kind)))
        row = changed(kind, tables[-1][place], last - place, one(kind))
        table = tables[-1][:place] + (row,) + tables[-1][place + 1:]
        yield (letters, start, tables[:-1] + (table,), ends)


def made_of(kind, machine):
    return [
        machine, put_in_order(machine, list(range(len(machine[1])))[::-1]), shuffled(kind, machine, 3),
        with_room_never_come_to(kind, machine), with_room_that_tells_nothing(kind, machine),
        disguised(kind, machine, 7), least(kind, machine), added(kind, without_rooms(machine[0]), machine),
    ]


class Walked(unittest.TestCase):
    def walk(self, kind, machine, other, told):
        self.assertIsInstance(told, tuple)
        self.assertEqual(len(told), 2)
        same(self, told[0], "yes")
        self.assertIsInstance(told[1], tuple)
        rows, first, steps = told[1]
        size = len(machine[1])
        width = size + len(other[1])
        for thing in (rows, first, steps):
            self.assertIsInstance(thing, list)
        self.assertLessEqual(len(rows), width)
        for row in rows:
            self.assertIsInstance(row, tuple)
            self.assertEqual(len(row), width)
            self.assertTrue(all(kind.is_weight(x) for x in row))
            same(self, dotted(kind, row[:size], machine[3]), dotted(kind, row[size:], other[3]))
        self.sum_of(kind, rows, first, machine[1] + other[1])
        self.assertEqual(len(steps), len(machine[0]))
        for lists, left, right in zip(steps, machine[2], other[2]):
            self.assertIsInstance(lists, list)
            self.assertEqual(len(lists), len(rows))
            for row, weights in zip(rows, lists):
                expected = row_put(kind, row[:size], left) + row_put(kind, row[size:], right)
                self.sum_of(kind, rows, weights, expected)

    def sum_of(self, kind, rows, weights, expected):
        self.assertIsInstance(weights, list)
        self.assertEqual(len(weights), len(rows))
        self.assertTrue(all(kind.is_weight(x) for x in weights))
        same(self, put_together(kind, weights, rows, len(expected)), expected)


class Yes(Walked):
    def test_a_machine_and_others_made_of_it(self):
        for kind in fields():
            for letters, size, seed in (("a", 3, 2), ("ab", 2, 3), ("ba", 3, 4), ("cab", 2, 5), ("b", 1, 6)):
                for draw in (drawn, thinned):
                    machine = draw(kind, letters, size, seed)
                    for other in made_of(kind, machine):
                        self.walk(kind, machine, other, alike(kind, machine, other))
                        self.walk(kind, other, machine, alike(kind, other, machine))

    def test_every_machine_and_its_least(self):
        for kind in fields():
            for machine in field_machines(kind):
                self.walk(kind, machine, least(kind, machine), alike(kind, machine, least(kind, machine)))

    def test_sums_in_another_order(self):
        for kind in fields():
            for seed in range(3):
                first = drawn(kind, "ba", 2, seed)
                second = thinned(kind, "ba", 3, seed + 5)
                one_way = added(kind, first, second)
                other_way = added(kind, second, first)
                self.walk(kind, one_way, other_way, alike(kind, one_way, other_way))

    def test_without_rooms(self):
        for kind in fields():
            for letters in ("a", "ba", "cab"):
                empty = without_rooms(letters)
                same(self, alike(kind, empty, empty), ("yes", ([], [], [[] for _ in letters])))
                for nothing in (
                    filled(kind, letters, 3, nought(kind)), single(kind, letters, letters, nought(kind)),
                    drawn(kind, letters, 2, 5)[:3] + ((nought(kind),) * 2,),
                ):
                    self.walk(kind, empty, nothing, alike(kind, empty, nothing))
                    self.walk(kind, nothing, empty, alike(kind, nothing, empty))

    def test_twenty_rooms_each(self):
        for kind in fields():
            machine = ring(kind, "ba", [one(kind)] + [nought(kind)] * 19)
            other = put_in_order(machine, [(7 * room + 3) % 20 for room in range(20)])
            self.walk(kind, machine, other, alike(kind, machine, other))
            more = chain(kind, "a", [nought(kind)] * 22 + [one(kind)])
            self.walk(kind, more, more, alike(kind, more, more))

    def test_it_is_the_askers_own(self):
        for kind in fields():
            machine = drawn(kind, "ab", 2, 3)
            for pair in ((machine, disguised(kind, machine, 7)), (machine, machine), (without_rooms("ab"),) * 2):
                told = alike(kind, *pair)
                again = alike(kind, *pair)
                own(self, told[1], again[1])
                for thing in told[1]:
                    thing.append("more")
                for lists in told[1][2][:-1]:
                    lists.append("more")
                    for weights in lists[:-1]:
                        weights.clear()
                same(self, alike(kind, *pair), again)


class No(unittest.TestCase):
    def check(self, kind, machine, other):
        word = first_unlike(kind, machine, other)
        if word is None:
            self.assertEqual(alike(kind, machine, other)[0], "yes")
            return 0
        same(self, alike(kind, machine, other), ("no", word))
        same(self, alike(kind, other, machine), ("no", word))
        return 1

    def test_machines_that_differ_at_one_weight(self):
        for kind in fields():
            found = 0
            for letters, size, seed in (("a", 1, 2), ("a", 4, 3), ("ab", 2, 4), ("ba", 3, 5), ("cab", 2, 6)):
                for draw in (drawn, thinned):
                    machine = draw(kind, letters, size, seed)
                    for other in with_one_weight_changed(kind, machine):
                        found = found + self.check(kind, machine, other)
            self.assertGreater(found, 20)

    def test_machines_of_all_sorts(self):
        for kind in fields():
            for letters in ("a", "ba", "cab"):
                machines = [machine for machine in field_machines(kind) if machine[0] == letters]
                machines = [machine for machine in machines if len(machine[1]) <= (2 if len(letters) > 2 else 3)]
                for machine in machines:
                    for other in machines[::2]:
                        self.check(kind, machine, other)

    def test_one_word_more(self):
        for kind in fields():
            for letters, most in (("a", 4), ("ba", 3), ("cab", 2)):
                machine = disguised(kind, drawn(kind, letters, 2, 8), 5)
                for word in all_words(letters, most):
                    other = added(kind, machine, single(kind, letters, word, other_than_nought(kind)[-1]))
                    same(self, alike(kind, machine, other), ("no", word))

    def test_several_words_of_one_length(self):
        for kind in fields():
            for letters in ("ab", "ba", "abc", "cab"):
                for word in all_words(letters, 2)[1:]:
                    machine = single(kind, letters, word, one(kind))
                    for other in [w for w in all_words(letters, 2)[1:] if w != word]:
                        order = all_words(letters, 2)
                        expected = min(word, other, key=order.index)
                        told = alike(kind, machine, single(kind, letters, other, one(kind)))
                        same(self, told, ("no", expected))

    def test_the_longest_word_that_may_be(self):
        for kind in fields():
            for size in range(1, 6):
                machine = chain(kind, "ba", [nought(kind)] * (size - 1) + [one(kind)])
                same(self, alike(kind, machine, without_rooms("ba")), ("no", "b" * (size - 1)))
                same(self, alike(kind, without_rooms("ba"), machine), ("no", "b" * (size - 1)))
            # By the ring each n letters weigh one; by the chain likewise, up to its end.
            for n, m in ((1, 1), (1, 4), (2, 3), (3, 4), (3, 7), (4, 1), (10, 11), (19, 20), (20, 1)):
                every = ring(kind, "ba", [one(kind)] + [nought(kind)] * (n - 1))
                some = chain(kind, "ba", [one(kind) if k % n == 0 else nought(kind) for k in range(m)])
                same(self, alike(kind, every, some), ("no", "b" * (n + m - 1)))
                same(self, alike(kind, some, every), ("no", "b" * (n + m - 1)))

    def test_what_weighs_alike_hangs_on_the_field(self):
        machine = ("a", (1,), (((1,),),), (1,))
        other = ("a", (1,), (((0,),),), (1,))
        same(self, alike(Residues(2), machine, other), ("no", "a"))
        twice = ("a", (1, 1), (((1, 0), (0, 1)),), (1, 1))
        self.assertEqual(alike(Residues(2), twice, without_rooms("a"))[0], "yes")
        same(self, alike(Residues(3), twice, without_rooms("a")), ("no", ""))


class Turning(unittest.TestCase):
    def check(self, kind, machine, other):
        told = turning(kind, machine, other)
        size = len(machine[1])
        self.assertIsInstance(told, tuple)
        self.assertEqual([len(row) for row in told], [size] * size)
        for row in told:
            self.assertIsInstance(row, tuple)
            self.assertTrue(all(kind.is_weight(x) for x in row))
        same(self, row_put(kind, machine[1], told), other[1])
        for left, right in zip(machine[2], other[2]):
            same(self, multiplied(kind, left, told), multiplied(kind, told, right))
        same(self, column_put(kind, told, other[3]), machine[3])
        self.assertEqual(free_of(kind, told), [True] * size)
        back = turning(kind, other, machine)
        same(self, multiplied(kind, told, back), corner_to_corner(kind, size))

    def least_ones(self, kind):
        return [machine for machine in field_machines(kind) if len(heads(kind, machine)) == len(machine[1])]

    def test_of_machines_made_of_one_another(self):
        for kind in fields():
            machines = self.least_ones(kind)
            self.assertGreater(len([machine for machine in machines if len(machine[1]) > 2]), 5)
            for machine in machines:
                order = sorted(range(len(machine[1])), key=lambda room: -room)
                for other in (put_in_order(machine, order), shuffled(kind, machine, 4), least(kind, machine)):
                    self.check(kind, machine, other)
                    self.check(kind, other, machine)

    def test_of_a_machine_and_itself(self):
        for kind in fields():
            for machine in self.least_ones(kind):
                same(self, turning(kind, machine, machine), corner_to_corner(kind, len(machine[1])))

    def test_by_hand(self):
        kind = Residues(7)
        machine = ("ab", (1, 2), (((1, 2), (3, 4)), ((0, 1), (1, 0))), (5, 6))
        other = put_in_order(machine, [1, 0])
        same(self, turning(kind, machine, other), ((0, 1), (1, 0)))
        same(self, turning(kind, ("a", (2,), (((3,),),), (5,)), ("a", (1,), (((3,),),), (3,))), ((4,),))
        halves = ("a", ((1, 2),), ((((1, 3),),),), ((4, 1),))
        same(self, turning(Fractions(), halves, ("a", ((2, 1),), ((((1, 3),),),), ((1, 1),))), (((4, 1),),))

    def test_without_rooms(self):
        for kind in fields():
            for letters in ("a", "ba", "cab"):
                same(self, turning(kind, without_rooms(letters), without_rooms(letters)), ())

    def test_none_of_machines_that_weigh_unlike(self):
        for kind in fields():
            for machine in self.least_ones(kind):
                for other in [] if machine[1] == () else with_one_weight_changed(kind, machine):
                    if first_unlike(kind, machine, other) is not None:
                        self.assertIsNone(turning(kind, machine, other))
                        self.assertIsNone(turning(kind, other, machine))

    def test_none_of_machines_that_are_not_least(self):
        for kind in fields():
            for letters, size, seed in (("a", 2, 3), ("ba", 2, 4), ("cab", 1, 5)):
                machine = drawn(kind, letters, size, seed)
                for other in (
                    with_room_never_come_to(kind, machine), with_room_that_tells_nothing(kind, machine),
                    disguised(kind, machine, 3), filled(kind, letters, 1, nought(kind)),
                    added(kind, machine, scaled(kind, nought(kind), machine)),
                ):
                    self.assertIsNone(turning(kind, other, other))
                    self.assertIsNone(turning(kind, other, shuffled(kind, other, 2)))

    def test_none_of_unlike_numbers_of_rooms(self):
        for kind in fields():
            for letters, size, seed in (("a", 2, 3), ("ba", 2, 4), ("cab", 1, 5)):
                machine = least(kind, drawn(kind, letters, size, seed))
                for other in (
                    with_room_never_come_to(kind, machine), with_room_that_tells_nothing(kind, machine),
                    disguised(kind, machine, 3),
                ):
                    self.assertEqual(alike(kind, machine, other)[0], "yes")
                    self.assertIsNone(turning(kind, machine, other))
                    self.assertIsNone(turning(kind, other, machine))
            empty = without_rooms("ab")
            self.assertIsNone(turning(kind, empty, filled(kind, "ab", 1, nought(kind))))
            self.assertIsNone(turning(kind, filled(kind, "ab", 1, nought(kind)), empty))


class Refusals(unittest.TestCase):
    def test_unlike(self):
        for kind in fields():
            for ask in (alike, turning):
                for first, second in (("a", "b"), ("ab", "a"), ("a", "ab"), ("ab", "ba"), ("abc", "acb"), ("ab", "ac")):
                    for m, n in ((2, 2), (0, 0), (0, 1), (1, 0), (20, 20)):
                        with self.assertRaises(Unlike):
                            ask(kind, drawn(kind, first, m), drawn(kind, second, n))

    def test_equal_texts_are_not_unlike(self):
        for kind in fields():
            machine = drawn(kind, "".join(["b", "a"]), 2)
            self.assertEqual(alike(kind, drawn(kind, "ba", 2), machine)[0], "yes")

    def test_wrong_kind_also_where_unlike_is_due(self):
        for kind in picking():
            for ask in (alike, turning):
                for first, second in (("ab", "ab"), ("ab", "ba"), ("a", "b")):
                    for m, n in ((2, 2), (0, 0), (0, 1), (1, 0)):
                        with self.assertRaises(WrongKind):
                            ask(kind, drawn(kind, first, m), drawn(kind, second, n))


class ThePromise(unittest.TestCase):
    def test_alike_just_where_least_machines_are_equal(self):
        for kind in fields():
            for letters in ("a", "ba", "cab"):
                machines = [machine for machine in field_machines(kind) if machine[0] == letters][:8]
                machines = machines + [disguised(kind, machine, 2) for machine in machines if machine[1] != ()][:2]
                for machine in machines:
                    for other in machines:
                        told = alike(kind, machine, other)[0] == "yes"
                        self.assertEqual(least(kind, machine) == least(kind, other), told)
