import copy
import unittest
from fractions import Fraction

from reckoned import GREATEST, kinds, same
from weighwalk.errors import NoKind, NoText, NoWeight, WrongKind
from weighwalk.kinds import Costs, Field, Fractions, Kind, Picking, Residues, Truths, kind_of
from weighwalk.ratios import fraction

THIRTY = 10 ** 30 - 1
SOME_FRACTIONS = ((0, 1), (1, 1), (-1, 1), (1, 2), (-1, 2), (2, 3), (-7, 3), (5, 4), (THIRTY, 2), (-1, THIRTY))
SOME_COSTS = (None, 0, 1, -1, 7, -12, THIRTY, -THIRTY)
# Texts that write no weight of any kind.
NO_NUMBERS = (
    "", " ", "-", "--1", "+1", "+", "-0", "00", "01", "-01", "007", " 1", "1 ", "- 1", "1 2", "1_0", "1.0", "1e3",
    "0x1", "a", "1a", "None", "True", "\n", "1\n", "\t1", "\u0661", "\u00b2", "1\u0662", "\uff11", "1/", "/1", "/",
)
NO_TEXTS = (None, True, False, 0, 1, 1.5, (1, 2), ("1",), ["1"], [], {}, {"1": 1}, b"1", object())


class AlwaysEqual:
    def __eq__(self, other):
        return True


def refused(test, kind, texts):
    for text in texts:
        with test.assertRaises(NoText, msg=(kind.told(), text)):
            kind.read(text)


class EveryKind(unittest.TestCase):
    def test_names(self):
        told = [kind.told() for kind in kinds()]
        self.assertEqual(told, ["fractions", "residues 2", "residues 7", "residues 999983", "costs", "truths"])

    def test_what_stands_under_what(self):
        for kind in kinds():
            self.assertIsInstance(kind, Kind)
        for kind in kinds()[:4]:
            self.assertIsInstance(kind, Field)
            self.assertNotIsInstance(kind, Picking)
        for kind in kinds()[4:]:
            self.assertIsInstance(kind, Picking)
            self.assertNotIsInstance(kind, Field)

    def test_fields_and_kinds_that_pick(self):
        for kind in kinds():
            self.assertIs(kind.is_field(), isinstance(kind, Field))
            self.assertIs(kind.picks(), isinstance(kind, Picking))

    def test_nought_and_one_are_weights_that_do_as_they_should(self):
        for kind in kinds():
            nought = kind.nought()
            one = kind.one()
            self.assertIs(kind.is_weight(nought), True)
            self.assertIs(kind.is_weight(one), True)
            for x in (nought, one, kind.plus(one, one)):
                same(self, kind.plus(nought, x), x)
                same(self, kind.plus(x, nought), x)
                same(self, kind.times(one, x), x)
                same(self, kind.times(x, one), x)
                same(self, kind.times(nought, x), nought)
                same(self, kind.times(x, nought), nought)

    def test_is_weight_of_things_that_are_never_one(self):
        things = (
            "", "1", "none", "yes", "1/2", 1.0, 0.5, float("inf"), [], [1, 2], [0, 1], {}, {0: 1}, {1}, b"1", object(),
            (), (1,), (0,), (1, 1, 1), (1, 2, 3), (1, 0), (0, 0), (1, -1), (-1, -2), (2, 2), (2, 4), (0, 2), (6, 3),
            (True, 1), (1, True), (True, True), (False, True), (None, 1), (1, None), ("1", "2"), (1.0, 2), (1, 2.0),
            ((1, 2), 3), ([1], 2), int, Fractions, AlwaysEqual(), Fraction(1, 2),
        )
        for kind in kinds():
            for thing in things:
                self.assertIs(kind.is_weight(thing), False, (kind.told(), thing))

    def test_is_weight_changes_nothing(self):
        for kind in kinds():
            for thing in ([1, 2], {"a": [1]}, ([1], [2])):
                before = copy.deepcopy(thing)
                kind.is_weight(thing)
                self.assertEqual(thing, before)

    def test_what_writes_no_weight_of_any_kind(self):
        for kind in kinds():
            refused(self, kind, NO_NUMBERS)

    def test_what_is_no_text(self):
        for kind in kinds():
            refused(self, kind, NO_TEXTS + (AlwaysEqual(),))

    def test_what_writes_a_weight_of_another_kind_alone(self):
        refused(self, Fractions(), ("none", "yes", "no"))
        refused(self, Residues(7), ("none", "yes", "no", "1/2", "-1"))
        refused(self, Costs(), ("yes", "no", "1/2", "-1/2", "None", "NONE", " none", "none "))
        refused(self, Truths(), ("none", "0", "1", "-1", "1/2", "true", "Yes", "NO", "yes ", " no", "y", "n", "yesno"))


class OfFractions(unittest.TestCase):
    def setUp(self):
        self.kind = Fractions()

    def usual(self, number):
        return (number.numerator, number.denominator)

    def test_nought_and_one(self):
        self.assertEqual(self.kind.nought(), (0, 1))
        self.assertEqual(self.kind.one(), (1, 1))

    def test_sum_and_product_are_as_usual(self):
        self.assertEqual(self.kind.plus((1, 2), (1, 3)), (5, 6))
        self.assertEqual(self.kind.plus((1, 6), (1, 3)), (1, 2))
        self.assertEqual(self.kind.plus((1, 2), (-1, 2)), (0, 1))
        self.assertEqual(self.kind.times((2, 3), (3, 4)), (1, 2))
        self.assertEqual(self.kind.times((-2, 3), (3, 2)), (-1, 1))
        for x in SOME_FRACTIONS:
            for y in SOME_FRACTIONS:
                self.assertEqual(self.kind.plus(x, y), self.usual(Fraction(*x) + Fraction(*y)))
                self.assertEqual(self.kind.times(x, y), self.usual(Fraction(*x) * Fraction(*y)))
                self.assertTrue(self.kind.is_weight(self.kind.plus(x, y)))
                self.assertTrue(self.kind.is_weight(self.kind.times(x, y)))

    def test_minus_and_inverse(self):
        self.assertEqual(self.kind.minus((1, 2)), (-1, 2))
        self.assertEqual(self.kind.minus((0, 1)), (0, 1))
        self.assertEqual(self.kind.inverse((-2, 3)), (-3, 2))
        self.assertEqual(self.kind.inverse((5, 1)), (1, 5))
        for x in SOME_FRACTIONS:
            self.assertTrue(self.kind.is_weight(self.kind.minus(x)))
            self.assertEqual(self.kind.plus(x, self.kind.minus(x)), (0, 1))
        for x in SOME_FRACTIONS[1:]:
            self.assertTrue(self.kind.is_weight(self.kind.inverse(x)))
            self.assertEqual(self.kind.times(x, self.kind.inverse(x)), (1, 1))

    def test_nought_has_no_inverse(self):
        with self.assertRaises(NoWeight):
            self.kind.inverse((0, 1))

    def test_is_weight(self):
        for x in SOME_FRACTIONS:
            self.assertIs(self.kind.is_weight(x), True)
        for thing in (0, 1, -1, None, True, False):
            self.assertIs(self.kind.is_weight(thing), False)

    def test_shown(self):
        shown = {(0, 1): "0", (7, 1): "7", (-7, 1): "-7", (1, 2): "1/2", (-3, 10): "-3/10"}
        for x in shown:
            self.assertEqual(self.kind.shown(x), shown[x])
            self.assertEqual(self.kind.read(shown[x]), x)

    def test_shown_of_many_figures(self):
        self.assertEqual(self.kind.shown((10 ** 3000, 3)), "1" + "0" * 3000 + "/3")

    def test_what_is_shown_is_read_to_the_same(self):
        for top in range(-30, 31):
            for bottom in range(1, 31):
                x = fraction(top, bottom)
                read = self.kind.read(self.kind.shown(x))
                same(self, read, x)
                same(self, read[0], x[0])
        for x in SOME_FRACTIONS:
            self.assertEqual(self.kind.read(self.kind.shown(x)), x)

    def test_what_writes_no_fraction(self):
        refused(self, self.kind, (
            "2/4", "6/3", "0/2", "0/1", "1/1", "3/1", "-3/1", "1/0", "0/0", "1/-2", "-1/-2", "2/2", "-2/4", "-0/2",
            "1/2/3", "1//2", "1/ 2", "1 /2", "1 / 2", "01/2", "1/02", "+1/2", "1/+2", "1/2 ", " 1/2", "--1/2", "1/-",
            "-/2", "1/a", "1/\u0662", "1\\2", "1:2", "(1, 2)",
        ))

    def test_thirty_and_thirty_one_figures(self):
        nines = "9" * 30
        self.assertEqual(self.kind.read(nines), (THIRTY, 1))
        self.assertEqual(self.kind.read("-" + nines), (-THIRTY, 1))
        self.assertEqual(self.kind.read("-" + nines + "/2"), (-THIRTY, 2))
        self.assertEqual(self.kind.read("-1/" + nines), (-1, THIRTY))
        many = "1" + "0" * 30
        refused(self, self.kind, (many, "-" + many, many + "/3", "-" + many + "/3", "1/" + many, "9" * 5000))


class OfResidues(unittest.TestCase):
    def test_nought_and_one(self):
        for prime in (2, 7, GREATEST):
            same(self, Residues(prime).nought(), 0)
            same(self, Residues(prime).one(), 1)

    def test_sum_and_product_are_as_usual_less_the_prime(self):
        for prime in (2, 3, 5, 7, 11):
            kind = Residues(prime)
            for x in range(prime):
                for y in range(prime):
                    same(self, kind.plus(x, y), (x + y) % prime)
                    same(self, kind.times(x, y), (x * y) % prime)
        kind = Residues(GREATEST)
        self.assertEqual(kind.plus(GREATEST - 1, GREATEST - 1), GREATEST - 2)
        self.assertEqual(kind.times(GREATEST - 1, GREATEST - 1), 1)

    def test_minus_and_inverse(self):
        for prime in (2, 3, 5, 7, 11, 101):
            kind = Residues(prime)
            for x in range(prime):
                self.assertTrue(kind.is_weight(kind.minus(x)))
                self.assertEqual(kind.plus(x, kind.minus(x)), 0)
            for x in range(1, prime):
                self.assertTrue(kind.is_weight(kind.inverse(x)))
                self.assertEqual(kind.times(x, kind.inverse(x)), 1)
        kind = Residues(GREATEST)
        for x in (1, 2, 999, 500000, GREATEST - 1):
            self.assertEqual(kind.times(x, kind.inverse(x)), 1)
            self.assertEqual(kind.plus(x, kind.minus(x)), 0)

    def test_nought_has_no_inverse(self):
        for prime in (2, 7, GREATEST):
            with self.assertRaises(NoWeight):
                Residues(prime).inverse(0)

    def test_is_weight(self):
        kind = Residues(7)
        for x in range(7):
            self.assertIs(kind.is_weight(x), True)
        for thing in (-1, 7, 8, THIRTY, True, False, None, (1, 2), (1, 1)):
            self.assertIs(kind.is_weight(thing), False)

    def test_shown_and_read(self):
        for prime in (2, 13, GREATEST):
            kind = Residues(prime)
            for x in (0, 1, prime // 2, prime - 1):
                self.assertEqual(kind.shown(x), str(x))
                same(self, kind.read(kind.shown(x)), x)

    def test_what_writes_no_residue(self):
        refused(self, Residues(7), ("7", "8", "10", "-1", "-6", "06", "1/2", "3/1", "9" * 30, "9" * 31, "9" * 5000))
        refused(self, Residues(2), ("2", "-1"))
        refused(self, Residues(GREATEST), (str(GREATEST), "1000000"))

    def test_primes(self):
        primes = []
        for number in range(0, 200):
            try:
                primes.append(Residues(number).told())
            except NoKind:
                pass
        whole = [n for n in range(2, 200) if all([n % k != 0 for k in range(2, n)])]
        self.assertEqual(primes, [f"residues {n}" for n in whole])
        self.assertEqual(Residues(GREATEST).told(), "residues 999983")

    def test_no_primes(self):
        numbers = (
            1, 0, -1, -2, -7, 4, 9, 49, 561, 999 * 999, 991 * 997, 997 * 997, 1000000, 999999, GREATEST + 1, -GREATEST,
        )
        for number in numbers:
            with self.assertRaises(NoKind, msg=number):
                Residues(number)

    def test_beyond_a_million(self):
        for number in (1000001, 1000003, 2 ** 31 - 1, 2 ** 61 - 1, 10 ** 5000 + 1, -10 ** 5000):
            with self.assertRaises(NoKind):
                Residues(number)

    def test_no_whole_numbers(self):
        for thing in (True, False, None, "7", "", 7.0, 2.0, float("nan"), (7,), [7], [], {}, {7: 7}, b"7", object()):
            with self.assertRaises(NoKind, msg=thing):
                Residues(thing)

    def test_unlike_primes_beside_one_another(self):
        five = Residues(5)
        seven = Residues(7)
        self.assertEqual(five.plus(4, 4), 3)
        self.assertEqual(seven.plus(4, 4), 1)
        self.assertEqual(five.inverse(3), 2)
        self.assertEqual(seven.inverse(3), 5)
        self.assertEqual((five.minus(2), seven.minus(2)), (3, 5))
        self.assertEqual((five.is_weight(5), seven.is_weight(5)), (False, True))
        self.assertEqual((five.told(), seven.told()), ("residues 5", "residues 7"))
        self.assertEqual(seven.read("6"), 6)
        refused(self, five, ("6",))


class OfCosts(unittest.TestCase):
    def setUp(self):
        self.kind = Costs()

    def test_nought_and_one(self):
        self.assertIsNone(self.kind.nought())
        same(self, self.kind.one(), 0)

    def test_the_sum_is_the_lesser(self):
        same(self, self.kind.plus(3, 5), 3)
        same(self, self.kind.plus(5, 3), 3)
        same(self, self.kind.plus(-3, 0), -3)
        same(self, self.kind.plus(None, THIRTY), THIRTY)
        same(self, self.kind.plus(THIRTY, None), THIRTY)
        same(self, self.kind.plus(0, None), 0)
        same(self, self.kind.plus(None, 0), 0)
        self.assertIsNone(self.kind.plus(None, None))

    def test_the_product_is_both_together(self):
        same(self, self.kind.times(3, 5), 8)
        same(self, self.kind.times(3, -5), -2)
        same(self, self.kind.times(0, 4), 4)
        same(self, self.kind.times(THIRTY, 1), 10 ** 30)
        for x in SOME_COSTS:
            self.assertIsNone(self.kind.times(None, x))
            self.assertIsNone(self.kind.times(x, None))

    def test_the_sum_is_one_of_both(self):
        for x in SOME_COSTS:
            for y in SOME_COSTS:
                self.assertIn(self.kind.plus(x, y), (x, y))

    def test_no_minus_and_no_inverse(self):
        for x in SOME_COSTS:
            with self.assertRaises(WrongKind):
                self.kind.minus(x)
            with self.assertRaises(WrongKind):
                self.kind.inverse(x)

    def test_is_weight(self):
        for x in SOME_COSTS:
            self.assertIs(self.kind.is_weight(x), True)
        for thing in (True, False, (0, 1), (1, 2)):
            self.assertIs(self.kind.is_weight(thing), False)

    def test_shown_and_read(self):
        self.assertEqual(self.kind.shown(None), "none")
        self.assertEqual(self.kind.shown(0), "0")
        self.assertEqual(self.kind.shown(-12), "-12")
        for x in SOME_COSTS:
            same(self, self.kind.read(self.kind.shown(x)), x)

    def test_thirty_one_figures(self):
        refused(self, self.kind, ("9" * 31, "-" + "9" * 31, "9" * 5000))


class OfTruths(unittest.TestCase):
    def setUp(self):
        self.kind = Truths()

    def test_nought_and_one(self):
        self.assertIs(self.kind.nought(), False)
        self.assertIs(self.kind.one(), True)

    def test_sum_and_product(self):
        for x in (True, False):
            for y in (True, False):
                self.assertIs(self.kind.plus(x, y), True in (x, y))
                self.assertIs(self.kind.times(x, y), False not in (x, y))

    def test_no_minus_and_no_inverse(self):
        for x in (True, False):
            with self.assertRaises(WrongKind):
                self.kind.minus(x)
            with self.assertRaises(WrongKind):
                self.kind.inverse(x)

    def test_is_weight(self):
        self.assertIs(self.kind.is_weight(True), True)
        self.assertIs(self.kind.is_weight(False), True)
        for thing in (0, 1, -1, None, (0, 1), (1, 1)):
            self.assertIs(self.kind.is_weight(thing), False)

    def test_shown_and_read(self):
        self.assertEqual(self.kind.shown(True), "yes")
        self.assertEqual(self.kind.shown(False), "no")
        self.assertIs(self.kind.read("yes"), True)
        self.assertIs(self.kind.read("no"), False)


class KindOf(unittest.TestCase):
    def test_each_name(self):
        self.assertIsInstance(kind_of("fractions"), Fractions)
        self.assertIsInstance(kind_of("costs"), Costs)
        self.assertIsInstance(kind_of("truths"), Truths)
        for kind in kinds():
            called = kind_of(kind.told())
            self.assertIs(type(called), type(kind))
            self.assertEqual(called.told(), kind.told())

    def test_the_prime_is_the_one_called(self):
        kind = kind_of("residues 7")
        self.assertIsInstance(kind, Residues)
        self.assertEqual(kind.plus(5, 6), 4)
        self.assertEqual(kind_of("residues 999983").minus(1), GREATEST - 1)

    def refuse(self, things):
        for thing in things:
            with self.assertRaises(NoKind, msg=thing):
                kind_of(thing)

    def test_no_primes(self):
        numbers = (0, 1, -1, -7, 4, 9, 1000, 999999, 1000000, 1000001, 1000003, 2 ** 31 - 1, THIRTY, 10 ** 30)
        self.refuse([f"residues {number}" for number in numbers])
        self.refuse(["residues " + "9" * 31, "residues 1" + "0" * 5000 + "1"])

    def test_primes_not_as_written(self):
        self.refuse((
            "residues 07", "residues +7", "residues  7", "residues 7 ", " residues 7", "residues\t7", "residues 7\n",
            "residues -0", "residues 7.0", "residues 7/1", "residues 14/2", "residues \u0667", "residues \uff17",
            "residues 1_1", "residues 0x7", "residues seven", "residues 7 7", "residues 2 3", "residues -7",
        ))

    def test_near_to_a_name(self):
        self.refuse((
            "", " ", "-", "7", "fraction", "Fractions", "FRACTIONS", "fractions ", " fractions", "fractions 7",
            "fractions\n", "cost", "Costs", "costs ", "costs 7", "truth", "Truths", "truths 2", " truths", "residues",
            "residues ", "residues7", "residue 7", "Residues 7", "residues(7)", "residues -", "residues p", "none",
        ))

    def test_no_texts(self):
        self.refuse(NO_TEXTS + (Fractions(), Residues(7), Fractions, AlwaysEqual(), b"costs", ("costs",), 7))
