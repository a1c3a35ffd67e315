import unittest

from reckoned import dotted, drawn_row, drawn_table, kinds, multiplied, nought, numbers, same
from weighwalk.kinds import Costs, Fractions, Residues, Truths
from weighwalk.tables import by_column, by_table, dot, row_by

SHAPES = ((1, 1), (1, 3), (3, 1), (2, 2), (2, 3), (3, 2), (4, 4))


class Told(unittest.TestCase):
    def test_fractions(self):
        kind = Fractions()
        table = (((1, 1), (2, 1), (0, 1)), ((1, 2), (-1, 3), (5, 1)))
        self.assertEqual(row_by(kind, ((1, 2), (3, 1)), table), ((2, 1), (0, 1), (15, 1)))
        self.assertEqual(by_column(kind, table, ((1, 1), (1, 2), (1, 5))), ((2, 1), (4, 3)))
        self.assertEqual(dot(kind, ((1, 2), (1, 3)), ((1, 2), (-3, 4))), (0, 1))

    def test_residues(self):
        kind = Residues(7)
        self.assertEqual(row_by(kind, (3, 4), ((1, 5), (1, 6))), (0, 4))
        self.assertEqual(by_column(kind, ((1, 5), (1, 6)), (3, 4)), (2, 6))
        self.assertEqual(by_table(kind, ((1, 2), (3, 4)), ((5, 6), (0, 1))), ((5, 1), (1, 1)))

    def test_costs(self):
        kind = Costs()
        self.assertEqual(row_by(kind, (3, -1), ((1, None), (6, None))), (4, None))
        self.assertEqual(by_column(kind, ((1, None), (6, -2)), (3, 4)), (4, 2))
        self.assertEqual(dot(kind, (None, 2), (5, None)), None)

    def test_truths(self):
        kind = Truths()
        self.assertEqual(row_by(kind, (True, False), ((False, True), (True, True))), (False, True))
        self.assertEqual(by_column(kind, ((False, True), (False, False)), (False, True)), (True, False))
        self.assertIs(dot(kind, (True, False), (False, True)), False)


class AgainstTheTestsOwnSums(unittest.TestCase):
    def test_row_by_column(self):
        for kind in kinds():
            source = numbers(3)
            for size in range(6):
                row = drawn_row(kind, source, size)
                column = drawn_row(kind, source, size)
                same(self, dot(kind, row, column), dotted(kind, row, column))

    def test_row_by_table_and_table_by_column(self):
        for kind in kinds():
            source = numbers(4)
            for height, width in SHAPES:
                table = drawn_table(kind, source, height, width)
                row = drawn_row(kind, source, height)
                column = drawn_row(kind, source, width)
                same(self, row_by(kind, row, table), tuple([dotted(kind, row, other) for other in zip(*table)]))
                same(self, by_column(kind, table, column), tuple([dotted(kind, other, column) for other in table]))

    def test_table_by_table(self):
        for kind in kinds():
            source = numbers(5)
            for height, middle in SHAPES:
                for width in (1, 2, 5):
                    one = drawn_table(kind, source, height, middle)
                    other = drawn_table(kind, source, middle, width)
                    same(self, by_table(kind, one, other), multiplied(kind, one, other))

    def test_a_row_by_two_tables_on_either_road(self):
        for kind in kinds():
            source = numbers(6)
            for height, middle in SHAPES:
                row = drawn_row(kind, source, height)
                one = drawn_table(kind, source, height, middle)
                other = drawn_table(kind, source, middle, 3)
                stepwise = row_by(kind, row_by(kind, row, one), other)
                same(self, row_by(kind, row, by_table(kind, one, other)), stepwise)


class OfNoRows(unittest.TestCase):
    def test_no_rows(self):
        for kind in kinds():
            same(self, row_by(kind, (), ()), ())
            same(self, by_column(kind, (), ()), ())
            same(self, by_table(kind, (), ()), ())
            same(self, dot(kind, (), ()), nought(kind))

    def test_rows_without_places(self):
        for kind in kinds():
            same(self, by_column(kind, ((), ()), ()), (nought(kind), nought(kind)))
            same(self, row_by(kind, (kind.one(),), ((),)), ())
            same(self, by_table(kind, ((), ()), ()), ((), ()))
