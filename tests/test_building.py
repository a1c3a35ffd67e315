import unittest

from reckoned import (
    NO_TEXTS, NeverCompared, all_words, cuts, drawn, filled, kinds, nought, one, other_than_nought, product, same,
    some_weights, total, walked,
)
from weighwalk.building import added, closed, crossed, joined, scaled, single, turned
from weighwalk.errors import NoClosure, NoWord, TooGreat, Unlike
from weighwalk.kinds import Costs, Fractions, Residues, Truths
from weighwalk.machines import is_machine, rooms, weight

MOST = 3
PAIRED = (added, joined, crossed)


def weights_of(kind, machine):
    return {word: walked(kind, machine, word) for word in all_words(machine[0], MOST)}


def pairs(kind):
    sizes = ((1, 1), (2, 1), (1, 3), (2, 2), (3, 2), (0, 2), (2, 0), (0, 0))
    told = [(drawn(kind, "ab", m, 3 + m), drawn(kind, "ab", n, 20 + n)) for m, n in sizes]
    told.append((drawn(kind, "ba", 2, 4), drawn(kind, "ba", 2, 5)))
    told.append((drawn(kind, "c", 3, 4), drawn(kind, "c", 1, 5)))
    told.append((drawn(kind, "cab", 1, 2), drawn(kind, "cab", 2, 6)))
    return told


def machines(kind):
    return [first for first, second in pairs(kind)] + [second for first, second in pairs(kind)]


def closable(kind):
    # Each starts in rooms that have no end.
    told = []
    for letters, size, seed in (("ab", 1, 3), ("ab", 2, 4), ("ba", 3, 7), ("b", 3, 2), ("cab", 2, 6), ("ab", 0, 1)):
        machine = drawn(kind, letters, size, seed)
        x = other_than_nought(kind)[-1]
        half = (size + 1) // 2
        start = (x,) * half + (nought(kind),) * (size - half)
        ends = (nought(kind),) * half + (x,) * (size - half)
        told.append((letters, start, machine[2], ends))
    return told


class Built(unittest.TestCase):
    def check(self, kind, machine, size, weights):
        self.assertIs(is_machine(kind, machine), True)
        self.assertEqual(rooms(machine), size)
        for word, x in weights.items():
            same(self, weight(kind, machine, word), x)

    def test_scaled(self):
        for kind in kinds():
            for machine in machines(kind):
                before = weights_of(kind, machine)
                for by in some_weights(kind):
                    expected = {word: product(kind, [by, x]) for word, x in before.items()}
                    self.check(kind, scaled(kind, by, machine), len(machine[1]), expected)

    def test_added(self):
        for kind in kinds():
            for first, second in pairs(kind):
                left = weights_of(kind, first)
                right = weights_of(kind, second)
                expected = {word: total(kind, [left[word], right[word]]) for word in left}
                self.check(kind, added(kind, first, second), len(first[1]) + len(second[1]), expected)

    def test_joined(self):
        for kind in kinds():
            for first, second in pairs(kind):
                left = weights_of(kind, first)
                right = weights_of(kind, second)
                expected = {}
                for word in left:
                    cut = [(word[:place], word[place:]) for place in range(len(word) + 1)]
                    expected[word] = total(kind, [product(kind, [left[u], right[v]]) for u, v in cut])
                self.check(kind, joined(kind, first, second), len(first[1]) + len(second[1]), expected)

    def test_crossed(self):
        for kind in kinds():
            for first, second in pairs(kind):
                left = weights_of(kind, first)
                right = weights_of(kind, second)
                expected = {word: product(kind, [left[word], right[word]]) for word in left}
                self.check(kind, crossed(kind, first, second), len(first[1]) * len(second[1]), expected)

    def test_turned(self):
        for kind in kinds():
            for machine in machines(kind):
                before = weights_of(kind, machine)
                expected = {word: before[word[::-1]] for word in before}
                self.check(kind, turned(kind, machine), len(machine[1]), expected)

    def test_closed(self):
        for kind in kinds():
            for machine in closable(kind):
                before = weights_of(kind, machine)
                expected = {"": one(kind)}
                for word in list(before)[1:]:
                    pieces = [product(kind, [before[piece] for piece in cut]) for cut in cuts(word)]
                    expected[word] = total(kind, pieces)
                self.check(kind, closed(kind, machine), len(machine[1]) + 1, expected)

    def test_single(self):
        for kind in kinds():
            for letters, word in (("ab", ""), ("ab", "a"), ("ba", "ba"), ("ab", "bab"), ("a", "aa"), ("cab", "ac")):
                for by in some_weights(kind):
                    expected = {other: nought(kind) for other in all_words(letters, len(word) + 1)}
                    expected[word] = by
                    machine = single(kind, letters, word, by)
                    self.assertEqual(machine[0], letters)
                    self.check(kind, machine, len(word) + 1, expected)

    def test_the_letters_stay(self):
        for kind in kinds():
            for letters in ("a", "ba", "cab"):
                machine = drawn(kind, letters, 0)
                self.assertEqual(scaled(kind, one(kind), machine)[0], letters)
                self.assertEqual(turned(kind, machine)[0], letters)
                self.assertEqual(closed(kind, machine)[0], letters)
                for build in PAIRED:
                    self.assertEqual(build(kind, machine, machine)[0], letters)

    def test_asked_again_it_is_the_same(self):
        for kind in kinds():
            for first, second in pairs(kind):
                for build in PAIRED:
                    same(self, build(kind, first, second), build(kind, first, second))
                same(self, turned(kind, first), turned(kind, first))
                same(self, scaled(kind, one(kind), first), scaled(kind, one(kind), first))
            for machine in closable(kind):
                same(self, closed(kind, machine), closed(kind, machine))
            same(self, single(kind, "ab", "abb", one(kind)), single(kind, "ab", "abb", one(kind)))

    def test_a_machine_with_itself(self):
        for kind in kinds():
            machine = drawn(kind, "ab", 2, 9)
            before = weights_of(kind, machine)
            self.check(kind, added(kind, machine, machine), 4, {w: total(kind, [x, x]) for w, x in before.items()})
            self.check(kind, crossed(kind, machine, machine), 4, {w: product(kind, [x, x]) for w, x in before.items()})

    def test_built_of_built_ones(self):
        for kind in kinds():
            a = single(kind, "ab", "a", one(kind))
            b = single(kind, "ab", "b", one(kind))
            # The words that end with ab, each by one.
            ends = joined(kind, closed(kind, added(kind, a, b)), joined(kind, a, b))
            for word in all_words("ab", 5):
                expected = one(kind) if word.endswith("ab") else nought(kind)
                same(self, weight(kind, ends, word), expected)
                same(self, weight(kind, turned(kind, ends), word[::-1]), expected)


class SomeByHand(unittest.TestCase):
    def test_costs(self):
        kind = Costs()
        first = ("a", (None, -2), (((1, None), (-4, 3)),), (5, None))
        second = ("a", (0,), (((-1,),),), (2,))
        self.assertEqual([weight(kind, first, "a" * k) for k in range(4)], [None, -1, 0, 1])
        self.assertEqual([weight(kind, second, "a" * k) for k in range(4)], [2, 1, 0, -1])
        self.assertEqual([weight(kind, added(kind, first, second), "a" * k) for k in range(4)], [2, -1, 0, -1])
        self.assertEqual([weight(kind, crossed(kind, first, second), "a" * k) for k in range(4)], [None, 0, 0, 0])
        self.assertEqual([weight(kind, joined(kind, first, second), "a" * k) for k in range(4)], [None, 1, 0, -1])
        self.assertEqual([weight(kind, closed(kind, first), "a" * k) for k in range(4)], [0, -1, -2, -3])
        self.assertEqual([weight(kind, scaled(kind, -7, first), "a" * k) for k in range(3)], [None, -8, -7])
        self.assertEqual([weight(kind, scaled(kind, None, first), "a" * k) for k in range(3)], [None, None, None])

    def test_fractions(self):
        kind = Fractions()
        half = ("a", ((1, 2),), ((((1, 2),),),), ((1, 1),))
        self.assertEqual(weight(kind, joined(kind, half, half), "aaa"), (1, 8))
        self.assertEqual(weight(kind, added(kind, half, half), "aa"), (1, 4))
        step = single(kind, "a", "a", (1, 3))
        self.assertEqual(weight(kind, closed(kind, step), "aaaa"), (1, 81))
        both = added(kind, step, single(kind, "a", "aa", (2, 1)))
        self.assertEqual(weight(kind, closed(kind, both), "aaa"), (1 * 1 + 2 * 2 * 9 * 1, 27))

    def test_truths(self):
        kind = Truths()
        threes = closed(kind, single(kind, "a", "aaa", True))
        twos = closed(kind, single(kind, "a", "aa", True))
        told = [weight(kind, crossed(kind, threes, twos), "a" * k) for k in range(13)]
        self.assertEqual(told, [k % 6 == 0 for k in range(13)])


class Closing(unittest.TestCase):
    def test_where_the_empty_word_weighs_anything_but_nought(self):
        for kind in kinds():
            for x in other_than_nought(kind):
                for size in (1, 3):
                    machine = single(kind, "ab", "", x)
                    for more in range(size - 1):
                        machine = added(kind, machine, single(kind, "ab", "", nought(kind)))
                    with self.assertRaises(NoClosure):
                        closed(kind, machine)

    def test_a_cost_of_0_and_below_is_no_nought(self):
        for x in (0, -1, -100):
            with self.assertRaises(NoClosure):
                closed(Costs(), ("a", (x,), (((None,),),), (0,)))
        machine = ("a", (None, 0), (((0, 0), (0, 0)),), (0, None))
        self.assertEqual(weight(Costs(), closed(Costs(), machine), ""), 0)

    def test_where_ways_of_the_empty_word_make_up_nought(self):
        machine = ("a", (3, 4), (((1, 2), (0, 5)),), (1, 1))
        told = [weight(Residues(7), closed(Residues(7), machine), "a" * k) for k in range(3)]
        a = walked(Residues(7), machine, "a")
        aa = walked(Residues(7), machine, "aa")
        self.assertEqual(told, [1, a, (a * a + aa) % 7])
        machine = ("a", ((1, 2), (-1, 1)), ((((1, 1), (0, 1)), ((0, 1), (3, 1))),), ((2, 1), (1, 1)))
        told = [weight(Fractions(), closed(Fractions(), machine), "a" * k) for k in range(3)]
        self.assertEqual(told, [(1, 1), (-2, 1), (-4, 1)])

    def test_without_rooms(self):
        for kind in kinds():
            machine = closed(kind, drawn(kind, "ab", 0))
            self.assertEqual(rooms(machine), 1)
            self.assertIs(is_machine(kind, machine), True)
            for word in all_words("ab", 3):
                same(self, weight(kind, machine, word), one(kind) if word == "" else nought(kind))

    def test_ahead_of_too_great(self):
        for kind in kinds():
            for size in (20, 21):
                machine = filled(kind, "a", size, one(kind))
                machine = ("a", (one(kind),) + machine[1][1:], machine[2], (one(kind),) + (nought(kind),) * (size - 1))
                with self.assertRaises(NoClosure):
                    closed(kind, machine)


class TooManyRooms(unittest.TestCase):
    def test_added_and_joined(self):
        for kind in kinds():
            for build in (added, joined):
                for m, n in ((10, 10), (0, 20), (20, 0), (1, 19)):
                    told = build(kind, drawn(kind, "ab", m), drawn(kind, "ab", n))
                    self.assertEqual(rooms(told), 20)
                    self.assertIs(is_machine(kind, told), True)
                for m, n in ((10, 11), (11, 10), (20, 1), (1, 20), (20, 20)):
                    with self.assertRaises(TooGreat):
                        build(kind, drawn(kind, "ab", m), drawn(kind, "ab", n))

    def test_crossed(self):
        for kind in kinds():
            for m, n in ((4, 5), (5, 4), (1, 20), (20, 1), (2, 10), (0, 20), (20, 0)):
                told = crossed(kind, drawn(kind, "ab", m), drawn(kind, "ab", n))
                self.assertEqual(rooms(told), m * n)
                self.assertIs(is_machine(kind, told), True)
            for m, n in ((3, 7), (7, 3), (2, 11), (20, 2), (20, 20)):
                with self.assertRaises(TooGreat):
                    crossed(kind, drawn(kind, "ab", m), drawn(kind, "ab", n))

    def test_closed(self):
        for kind in kinds():
            self.assertEqual(rooms(closed(kind, filled(kind, "ab", 19, nought(kind)))), 20)
            with self.assertRaises(TooGreat):
                closed(kind, filled(kind, "ab", 20, nought(kind)))

    def test_single(self):
        for kind in kinds():
            word = "ab" * 9 + "b"
            told = single(kind, "ab", word, one(kind))
            self.assertEqual(rooms(told), 20)
            self.assertIs(is_machine(kind, told), True)
            same(self, weight(kind, told, word), one(kind))
            for length in (20, 21, 40):
                with self.assertRaises(TooGreat):
                    single(kind, "ab", "a" * length, one(kind))
                with self.assertRaises(TooGreat):
                    single(kind, "ab", "a" * length, nought(kind))

    def test_scaled_and_turned(self):
        for kind in kinds():
            machine = drawn(kind, "ab", 20)
            self.assertEqual(rooms(scaled(kind, one(kind), machine)), 20)
            self.assertEqual(rooms(turned(kind, machine)), 20)
            with self.assertRaises(TooGreat):
                scaled(kind, one(kind), drawn(kind, "ab", 21))
            with self.assertRaises(TooGreat):
                turned(kind, drawn(kind, "ab", 21))


class UnlikeLetters(unittest.TestCase):
    def test_refused(self):
        for kind in kinds():
            for build in PAIRED:
                for first, second in (("a", "b"), ("ab", "a"), ("a", "ab"), ("ab", "ba"), ("abc", "acb"), ("ab", "ac")):
                    for m, n in ((2, 1), (0, 0), (0, 1), (20, 20)):
                        with self.assertRaises(Unlike):
                            build(kind, drawn(kind, first, m), drawn(kind, second, n))

    def test_equal_texts_are_alike(self):
        for kind in kinds():
            for build in PAIRED:
                made = "".join(["b", "a"])
                self.assertEqual(build(kind, drawn(kind, "ba", 1), drawn(kind, made, 1))[0], "ba")


class SingleOfNoWord(unittest.TestCase):
    def test_refused(self):
        for kind in kinds():
            for word in ("c", "ac", "ca", "abcab", "A", " ", "a b", "-", "\n", "ab\n", "\u00e4") + NO_TEXTS:
                with self.assertRaises(NoWord):
                    single(kind, "ab", word, one(kind))
            with self.assertRaises(NoWord):
                single(kind, "ab", NeverCompared(), one(kind))

    def test_ahead_of_too_great(self):
        for kind in kinds():
            for word in ("c" * 25, "a" * 30 + "c", "c" + "a" * 19, ["a"] * 30, ("a",) * 30):
                with self.assertRaises(NoWord):
                    single(kind, "ab", word, one(kind))
