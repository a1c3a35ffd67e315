import unittest

from reckoned import (
    chain, disguised, drawn, field_machines, fields, nought, one, other_than_nought, picking, ring, same, thinned,
    weighed, without_rooms,
)
from weighwalk.building import single
from weighwalk.errors import WrongKind
from weighwalk.kinds import Fractions, Residues
from weighwalk.learn import learnt
from weighwalk.least import heads, least


class Answering:
    def __init__(self, kind, machine, most):
        self.weights = weighed(kind, machine, most)
        self.asked = []

    def __call__(self, word):
        self.asked.append(word)
        return self.weights[word]


def never(word):
    raise AssertionError("asked")


class Learnt(unittest.TestCase):
    def check(self, kind, machine, most):
        # A word that is too long, or isn't of the letters, has no weight here.
        ask = Answering(kind, machine, 2 * most - 1)
        same(self, learnt(kind, machine[0], ask, most), least(kind, machine))
        for word in ask.asked:
            self.assertIsInstance(word, str)

    def test_with_just_enough_rooms_told(self):
        bounds = {1: 12, 2: 5, 3: 4}
        for kind in fields():
            for machine in field_machines(kind):
                enough = len(heads(kind, machine))
                self.assertLessEqual(enough, bounds[len(machine[0])])
                self.check(kind, machine, enough)

    def test_with_more_rooms_told(self):
        for kind in fields():
            for machine in field_machines(kind):
                enough = len(heads(kind, machine))
                for most in (enough + 1, enough + 2):
                    if most <= {1: 12, 2: 4, 3: 3}[len(machine[0])]:
                        self.check(kind, machine, most)

    def test_the_most_rooms(self):
        for kind in fields():
            for draw in (drawn, thinned):
                self.check(kind, draw(kind, "b", 12, 5), 12)
                self.check(kind, draw(kind, "ba", 5, 6), 5)
                self.check(kind, draw(kind, "cab", 4, 7), 4)
            self.check(kind, ring(kind, "a", [one(kind)] + [nought(kind)] * 11), 12)
            self.check(kind, single(kind, "ba", "abba", one(kind)), 5)
            self.check(kind, single(kind, "bca", "cab", one(kind)), 4)

    def test_somewhat_more_than_the_most(self):
        for kind in fields():
            self.check(kind, ring(kind, "a", [one(kind)] + [nought(kind)] * 13), 14)
            self.check(kind, single(kind, "ba", "aabba", one(kind)), 6)

    def test_the_longest_words_are_needed(self):
        # Only a word of as many letters as rooms, less one, weighs anything but nought; or the letter behind it.
        for kind in fields():
            for size in (1, 2, 4):
                self.check(kind, chain(kind, "ba", [nought(kind)] * (size - 1) + [one(kind)]), size)
                self.check(kind, ring(kind, "ba", [nought(kind)] * (size - 1) + [one(kind)]), size)

    def test_of_machines_that_are_not_least(self):
        for kind in fields():
            machine = drawn(kind, "ba", 2, 3)
            other = disguised(kind, machine, 4)
            ask = Answering(kind, other, 3)
            same(self, learnt(kind, "ba", ask, 2), least(kind, machine))

    def test_no_rooms(self):
        for kind in fields():
            for letters in ("a", "ba", "cab"):
                same(self, learnt(kind, letters, never, 0), without_rooms(letters))
                for most in (1, 2, 4):
                    same(self, learnt(kind, letters, lambda word: nought(kind), most), without_rooms(letters))

    def test_one_room(self):
        for kind in fields():
            x = other_than_nought(kind)[-1]
            asked = []

            def ask(word):
                asked.append(word)
                return x

            same(self, learnt(kind, "ba", ask, 1), ("ba", (one(kind),), (((one(kind),),),) * 2, (x,)))
            self.assertEqual(sorted(set(asked)), ["", "a", "b"])

    def test_by_hand(self):
        told = learnt(Fractions(), "a", lambda word: (2 ** len(word), 3), 3)
        same(self, told, ("a", ((1, 1),), ((((2, 1),),),), ((1, 3),)))
        told = learnt(Residues(7), "ab", lambda word: word.count("b") % 7, 2)
        same(self, told, ("ab", (1, 0), (((1, 0), (0, 1)), ((0, 1), (6, 2))), (0, 1)))

    def test_asked_again_it_is_the_same(self):
        for kind in fields():
            machine = drawn(kind, "ab", 3, 9)
            first = Answering(kind, machine, 5)
            second = Answering(kind, machine, 5)
            same(self, learnt(kind, "ab", first, 3), learnt(kind, "ab", second, 3))
            self.assertEqual(first.asked, second.asked)
            # No word is asked for twice.
            self.assertEqual(len(set(first.asked)), len(first.asked))


class OfOtherKinds(unittest.TestCase):
    def test_wrong_kind_ahead_of_all_asking(self):
        for kind in picking():
            for most in (0, 1, 3):
                for letters in ("a", "ba", "cab"):
                    with self.assertRaises(WrongKind):
                        learnt(kind, letters, never, most)
