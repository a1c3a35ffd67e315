import copy
import itertools
import unittest

from reckoned import (
    corner_to_corner, drawn_table, fields, multiplied, nought, numbers, one, picking, put_together, same,
)
from weighwalk.errors import WrongKind
from weighwalk.kinds import Fractions, Residues
from weighwalk.spans import free, inverse_of, parts, rank


def whole(rows):
    return [tuple([(x, 1) for x in row]) for row in rows]


def small_rows(prime, width):
    return list(itertools.product(range(prime), repeat=width))


def spanned(kind, rows, width):
    choices = itertools.product(range(kind.prime), repeat=len(rows))
    return {put_together(kind, weights, rows, width) for weights in choices}


def small_lists(prime, width, most):
    for count in range(most + 1):
        for rows in itertools.product(small_rows(prime, width), repeat=count):
            yield list(rows)


class Parts(unittest.TestCase):
    def check(self, kind, rows, row):
        told = parts(kind, rows, row)
        self.assertIsInstance(told, list)
        self.assertEqual(len(told), len(rows))
        for x in told:
            self.assertIs(kind.is_weight(x), True)
        same(self, put_together(kind, told, rows, len(row)), row)

    def test_every_small_list_of_rows(self):
        for prime, width, most in ((2, 2, 3), (2, 3, 2), (3, 2, 2), (5, 1, 2)):
            kind = Residues(prime)
            for rows in small_lists(prime, width, most):
                reached = spanned(kind, rows, width)
                for row in small_rows(prime, width):
                    if row in reached:
                        self.check(kind, rows, row)
                    else:
                        self.assertIsNone(parts(kind, rows, row), (rows, row))

    def test_fractions_by_hand(self):
        kind = Fractions()
        rows = whole([(1, 2, 3), (0, 1, 1)])
        self.assertEqual(parts(kind, rows, ((1, 1), (0, 1), (1, 1))), [(1, 1), (-2, 1)])
        self.assertEqual(parts(kind, rows, ((1, 2), (1, 3), (5, 6))), [(1, 2), (-2, 3)])
        self.assertIsNone(parts(kind, rows, ((1, 1), (0, 1), (2, 1))))
        self.assertEqual(parts(kind, rows, ((0, 1),) * 3), [(0, 1), (0, 1)])

    def test_a_great_prime_by_hand(self):
        kind = Residues(999983)
        self.assertEqual(parts(kind, [(2, 0), (0, 3)], (1, 1)), [499992, 333328])
        self.assertIsNone(parts(kind, [(2, 4), (1, 2)], (1, 3)))

    def test_sums_of_drawn_rows(self):
        for kind in fields():
            source = numbers(12)
            for count, width in ((1, 1), (2, 3), (3, 3), (4, 2), (5, 5), (3, 6)):
                for time in range(6):
                    rows = list(drawn_table(kind, source, count, width))
                    weights = drawn_table(kind, source, 1, count)[0]
                    self.check(kind, rows, put_together(kind, weights, rows, width))

    def test_where_there_are_several(self):
        for kind in fields():
            row = (one(kind), nought(kind), one(kind))
            self.check(kind, [row, row, row], row)
            self.check(kind, [(nought(kind),) * 3, row], row)
            self.check(kind, [(nought(kind),) * 3] * 2, (nought(kind),) * 3)

    def test_no_rows(self):
        for kind in fields():
            for width in range(4):
                self.assertEqual(parts(kind, [], (nought(kind),) * width), [])
                for place in range(width):
                    row = [nought(kind)] * width
                    row[place] = one(kind)
                    self.assertIsNone(parts(kind, [], tuple(row)))

    def test_no_places(self):
        for kind in fields():
            for count in range(3):
                self.check(kind, [()] * count, ())

    def test_the_list_is_the_askers_own_and_nothing_is_changed(self):
        for kind in fields():
            rows = [(one(kind), nought(kind)), (nought(kind), one(kind)), (one(kind), one(kind))]
            before = copy.deepcopy(rows)
            told = parts(kind, rows, rows[2])
            kept = list(told)
            parts(kind, rows, rows[2]).clear()
            self.assertEqual(told, kept)
            told.append("more")
            same(self, parts(kind, rows, rows[2]), kept)
            free(kind, rows)
            rank(kind, rows)
            same(self, rows, before)
            empty = parts(kind, [], (nought(kind),))
            empty.append("more")
            self.assertEqual(parts(kind, [], (nought(kind),)), [])


class FreeAndRank(unittest.TestCase):
    def test_every_small_list_of_rows(self):
        for prime, width, most in ((2, 2, 3), (2, 3, 3), (3, 2, 2), (5, 1, 2), (2, 0, 2)):
            kind = Residues(prime)
            for rows in small_lists(prime, width, most):
                self.assertEqual(prime ** rank(kind, rows), len(spanned(kind, rows, width)), rows)
                others = [rows[:place] + rows[place + 1:] for place in range(len(rows))]
                expected = not any(row in spanned(kind, rest, width) for row, rest in zip(rows, others))
                self.assertIs(free(kind, rows), expected, rows)

    def test_fractions(self):
        kind = Fractions()
        for rows, expected in (
            ([(1, 2), (2, 4)], 1), ([(1, 2), (2, 5)], 2), ([(0, 0), (0, 0)], 0), ([(0, 1), (1, 0), (1, 1)], 2),
            ([(1, 2, 3), (4, 5, 6), (7, 8, 9)], 2), ([(1, 2, 3), (4, 5, 6), (7, 8, 10)], 3), ([(0, 0, 5)], 1),
            ([(0, 0, 1), (0, 1, 0), (1, 0, 0)], 3), ([(2, 0), (2, 0)], 1), ([(0,)], 0), ([(3,), (5,)], 1),
        ):
            self.assertEqual(rank(kind, whole(rows)), expected, rows)
            self.assertIs(free(kind, whole(rows)), expected == len(rows), rows)

    def test_what_is_free_hangs_on_the_field(self):
        rows = [(1, 1), (1, 3)]
        self.assertIs(free(Fractions(), whole(rows)), True)
        self.assertIs(free(Residues(7), rows), True)
        self.assertIs(free(Residues(2), [(1, 1), (1, 1)]), False)
        self.assertIs(free(Residues(7), [(1, 5), (3, 1)]), False)
        self.assertIs(free(Fractions(), whole([(1, 5), (3, 1)])), True)

    def test_no_rows_and_no_places(self):
        for kind in fields():
            self.assertEqual(rank(kind, []), 0)
            self.assertIs(free(kind, []), True)
            self.assertEqual(rank(kind, [(), ()]), 0)
            self.assertIs(free(kind, [()]), False)

    def test_more_rows_than_places_are_not_free(self):
        for kind in fields():
            source = numbers(31)
            for width in range(1, 5):
                rows = list(drawn_table(kind, source, width + 1, width))
                self.assertIs(free(kind, rows), False)
                self.assertLessEqual(rank(kind, rows), width)

    def test_twenty_rows(self):
        for kind in fields():
            rows = list(corner_to_corner(kind, 20))
            self.assertEqual(rank(kind, rows[::-1]), 20)
            self.assertIs(free(kind, rows[::-1]), True)
            self.assertEqual(rank(kind, rows + rows), 20)
            self.assertIs(free(kind, rows + rows[:1]), False)


class Inverses(unittest.TestCase):
    def check(self, kind, table):
        told = inverse_of(kind, table)
        size = len(table)
        self.assertIsInstance(told, tuple)
        same(self, multiplied(kind, told, table), corner_to_corner(kind, size))
        same(self, multiplied(kind, table, told), corner_to_corner(kind, size))

    def test_every_small_table(self):
        for prime in (2, 3, 5):
            kind = Residues(prime)
            for a, b, c, d in itertools.product(range(prime), repeat=4):
                table = ((a, b), (c, d))
                if (a * d - b * c) % prime == 0:
                    self.assertIsNone(inverse_of(kind, table), table)
                else:
                    self.check(kind, table)
        for rows in itertools.product(small_rows(2, 3), repeat=3):
            if len(spanned(Residues(2), rows, 3)) < 8:
                self.assertIsNone(inverse_of(Residues(2), rows), rows)
            else:
                self.check(Residues(2), rows)

    def test_fractions_by_hand(self):
        kind = Fractions()
        table = (((1, 1), (2, 1)), ((3, 1), (4, 1)))
        self.assertEqual(inverse_of(kind, table), (((-2, 1), (1, 1)), ((3, 2), (-1, 2))))
        self.assertEqual(inverse_of(kind, (((-2, 3),),)), (((-3, 2),),))
        self.assertIsNone(inverse_of(kind, (((1, 1), (2, 1)), ((2, 1), (4, 1)))))
        self.assertIsNone(inverse_of(kind, (((0, 1),),)))

    def test_fractions_of_a_greater_table(self):
        table = tuple([tuple([(1, q + r + 1) for r in range(6)]) for q in range(6)])
        self.check(Fractions(), table)
        self.assertEqual(inverse_of(Fractions(), table)[0][0], (36, 1))

    def test_rows_that_must_change_places(self):
        for kind in fields():
            for size in (2, 3, 5):
                backwards = corner_to_corner(kind, size)[::-1]
                same(self, inverse_of(kind, backwards), backwards)
                around = corner_to_corner(kind, size)[1:] + corner_to_corner(kind, size)[:1]
                self.check(kind, around)

    def test_drawn_tables(self):
        for kind in fields():
            source = numbers(77)
            found = 0
            for size in (1, 2, 3, 4, 5) * 8:
                table = drawn_table(kind, source, size, size)
                if rank(kind, list(table)) == size:
                    self.check(kind, table)
                    found = found + 1
                else:
                    self.assertIsNone(inverse_of(kind, table))
            self.assertGreater(found, 5)

    def test_without_an_inverse(self):
        for kind in fields():
            for size in (1, 2, 4):
                self.assertIsNone(inverse_of(kind, ((nought(kind),) * size,) * size))
            self.assertIsNone(inverse_of(kind, ((one(kind), one(kind)),) * 2))
            self.assertIsNone(inverse_of(kind, ((one(kind), nought(kind)), (one(kind), nought(kind)))))

    def test_no_rows(self):
        for kind in fields():
            same(self, inverse_of(kind, ()), ())

    def test_twenty_rows(self):
        for kind in fields():
            lower = [[one(kind) if r <= q else nought(kind) for r in range(20)] for q in range(20)]
            self.check(kind, tuple([tuple(row) for row in lower[::-1]]))


class OfOtherKinds(unittest.TestCase):
    def test_wrong_kind(self):
        for kind in picking():
            x = one(kind)
            for rows in ([], [()], [(x,)], [(x, x), (x, x)], [(nought(kind),)]):
                with self.assertRaises(WrongKind):
                    free(kind, rows)
                with self.assertRaises(WrongKind):
                    rank(kind, rows)
                with self.assertRaises(WrongKind):
                    inverse_of(kind, tuple(rows))
                for row in [()] + rows:
                    with self.assertRaises(WrongKind):
                        parts(kind, rows, row)
