import unittest

from reckoned import (
    all_words, chain, corner_to_corner, disguised, drawn, field_machines, fields, filled, free_of, multiplied, nought,
    one, other_than_nought, own, picking, put_in_order, put_together, ring, same, shuffled, thinned, total, weighed,
    with_room_never_come_to, with_room_that_tells_nothing, without_rooms,
)
from weighwalk.building import added, scaled, single
from weighwalk.errors import WrongKind
from weighwalk.kinds import Fractions, Residues
from weighwalk.least import heads, least, paper, tails
from weighwalk.machines import is_machine


def whole(thing):
    return tuple([whole(piece) for piece in thing]) if isinstance(thing, tuple) else (thing, 1)


def walked_free(kind, machine, put):
    words = all_words(machine[0], len(machine[1]) - 1)
    weights = weighed(kind, machine, 2 * len(machine[1]))
    rows = [tuple([weights[put(word, other)] for other in words]) for word in words]
    return [word for word, free in zip(words, free_of(kind, rows)) if free]


def walked_heads(kind, machine):
    return walked_free(kind, machine, lambda word, behind: word + behind)


def walked_tails(kind, machine):
    return walked_free(kind, machine, lambda word, ahead: ahead + word)


class Heads(unittest.TestCase):
    def test_against_a_walk(self):
        for kind in fields():
            for machine in field_machines(kind):
                self.assertEqual(heads(kind, machine), walked_heads(kind, machine), machine)
                self.assertEqual(tails(kind, machine), walked_tails(kind, machine), machine)

    def test_as_many_of_both_and_what_begins_or_ends_them(self):
        for kind in fields():
            for machine in field_machines(kind):
                first = heads(kind, machine)
                last = tails(kind, machine)
                self.assertIsInstance(first, list)
                self.assertIsInstance(last, list)
                self.assertEqual(len(first), len(last))
                self.assertLessEqual(len(first), len(machine[1]))
                for word in first:
                    self.assertTrue(all(word[:place] in first for place in range(len(word))))
                for word in last:
                    self.assertTrue(all(word[place:] in last for place in range(len(word) + 1)))

    def test_the_order_of_the_letters(self):
        for kind in fields():
            # One more than how many letters there are, and such a room for each letter that only it leads to.
            for letters in ("ab", "ba", "abc", "cab", "bca"):
                size = len(letters) + 1
                ones = corner_to_corner(kind, size)
                nothing = (nought(kind),) * size
                tables = [(ones[place],) + (nothing,) * (size - 1) for place in range(1, size)]
                for weights in ([one(kind)] * size, [nought(kind)] + [one(kind)] * (size - 1)):
                    machine = (letters, ones[0], tuple(tables), tuple(weights))
                    # By the ends all letters weigh alike: the first of them alone is a head, and a tail.
                    self.assertEqual(heads(kind, machine), ["", letters[0]])
                    self.assertEqual(tails(kind, machine), ["", letters[0]])

    def test_tails_of_one_length_rise_by_their_first_letter(self):
        for kind in fields():
            # Just ab and ba weigh one.
            machine = added(kind, single(kind, "ab", "ab", one(kind)), single(kind, "ab", "ba", one(kind)))
            self.assertEqual(heads(kind, machine), ["", "a", "b", "ab"])
            self.assertEqual(tails(kind, machine), ["", "a", "b", "ab"])
            machine = added(kind, single(kind, "ba", "ab", one(kind)), single(kind, "ba", "ba", one(kind)))
            self.assertEqual(heads(kind, machine), ["", "b", "a", "ba"])
            self.assertEqual(tails(kind, machine), ["", "b", "a", "ba"])

    def test_one_word(self):
        for kind in fields():
            for letters, word in (("ab", "abba"), ("ba", "abb"), ("c", "cccc"), ("cab", "bca"), ("ab", "")):
                machine = single(kind, letters, word, other_than_nought(kind)[-1])
                places = range(len(word) + 1)
                self.assertEqual(heads(kind, machine), [word[:place] for place in places])
                self.assertEqual(tails(kind, machine), [word[place:] for place in reversed(places)])

    def test_without_rooms_and_where_each_word_weighs_nought(self):
        for kind in fields():
            machine = drawn(kind, "ba", 3, 8)
            empty = (nought(kind),) * 3
            apart = (one(kind), nought(kind))
            staying = ("a", apart, (corner_to_corner(kind, 2),), apart[::-1])
            for other in (
                without_rooms("a"), without_rooms("abc"), filled(kind, "ab", 1, nought(kind)),
                filled(kind, "cab", 3, nought(kind)), ("ba", empty) + machine[2:], machine[:3] + (empty,), staying,
            ):
                same(self, heads(kind, other), [])
                same(self, tails(kind, other), [])

    def test_twenty_rooms(self):
        for kind in fields():
            machine = ring(kind, "ba", [one(kind)] + [nought(kind)] * 19)
            self.assertEqual(heads(kind, machine), ["b" * place for place in range(20)])
            self.assertEqual(tails(kind, machine), ["b" * place for place in range(20)])

    def test_somewhat_more_rooms_are_not_refused(self):
        for kind in fields():
            machine = chain(kind, "a", [nought(kind)] * 22 + [one(kind)])
            self.assertEqual(heads(kind, machine), ["a" * place for place in range(23)])
            self.assertEqual(tails(kind, machine), ["a" * place for place in range(23)])
            same(self, least(kind, machine), machine)
            self.assertEqual(len(paper(kind, machine)[2]), 23)

    def test_they_are_the_askers_own(self):
        for kind in fields():
            machine = drawn(kind, "ba", 3, 8)
            for ask in (heads, tails):
                told = ask(kind, machine)
                kept = list(told)
                ask(kind, machine).clear()
                self.assertEqual(told, kept)
                told.append("more")
                self.assertEqual(ask(kind, machine), kept)
            empty = heads(kind, without_rooms("a"))
            empty.append("more")
            self.assertEqual(heads(kind, without_rooms("a")), [])


class Least(unittest.TestCase):
    def test_as_it_is_told(self):
        for kind in fields():
            for machine in field_machines(kind):
                told = least(kind, machine)
                words = walked_heads(kind, machine)
                self.check(kind, machine, told, words)

    def check(self, kind, machine, told, words):
        letters = machine[0]
        size = len(words)
        self.assertIs(is_machine(kind, told), True)
        self.assertEqual(told[0], letters)
        same(self, told[1], (one(kind),) * min(size, 1) + (nought(kind),) * (size - 1))
        endings = all_words(letters, len(machine[1]) - 1)
        weights = weighed(kind, machine, 2 * len(machine[1]))
        same(self, told[3], tuple([weights[word] for word in words]))
        rows = [tuple([weights[word + ending] for ending in endings]) for word in words]
        for letter, table in zip(letters, told[2]):
            self.assertEqual(len(table), size)
            for word, row in zip(words, table):
                expected = tuple([weights[word + letter + ending] for ending in endings])
                same(self, put_together(kind, row, rows, len(endings)), expected)

    def test_each_word_weighs_what_it_did(self):
        for kind in fields():
            for machine in field_machines(kind):
                most = {1: 9, 2: 6, 3: 4}[len(machine[0])]
                same(self, weighed(kind, least(kind, machine), most), weighed(kind, machine, most))

    def test_its_own_least_machine_is_the_same(self):
        for kind in fields():
            for machine in field_machines(kind):
                told = least(kind, machine)
                same(self, least(kind, told), told)
                same(self, least(kind, machine), told)

    def test_machines_made_of_one_another(self):
        for kind in fields():
            for letters, size, seed in (("a", 3, 2), ("ab", 2, 3), ("ba", 3, 4), ("cab", 2, 5), ("ab", 1, 6)):
                for draw in (drawn, thinned):
                    machine = draw(kind, letters, size, seed)
                    told = least(kind, machine)
                    order = list(range(size))[::-1]
                    for other in (
                        put_in_order(machine, order), shuffled(kind, machine, seed), disguised(kind, machine, seed),
                        with_room_never_come_to(kind, machine), with_room_that_tells_nothing(kind, machine),
                        added(kind, machine, without_rooms(letters)),
                        added(kind, machine, added(kind, machine, scaled(kind, minus_one(kind), machine))),
                    ):
                        same(self, least(kind, other), told)

    def test_machines_that_weigh_some_word_unlike(self):
        for kind in fields():
            for machine in field_machines(kind):
                for word in all_words(machine[0], 1) + [machine[0] + machine[0][0]]:
                    other = added(kind, machine, single(kind, machine[0], word, one(kind)))
                    self.assertNotEqual(least(kind, other), least(kind, machine))

    def test_all_small_machines_of_residues(self):
        # Of one letter, two rooms and residues of 2: least machines are equal just where all weights are.
        kind = Residues(2)
        found = {}
        for number in range(2 ** 8):
            bits = [number >> place & 1 for place in range(8)]
            machine = ("a", tuple(bits[:2]), ((tuple(bits[2:4]), tuple(bits[4:6])),), tuple(bits[6:]))
            weights = tuple(weighed(kind, machine, 5).values())
            told = least(kind, machine)
            self.assertEqual(found.setdefault(weights, told), told)
        self.assertEqual(len(set(found.values())), len(found))

    def test_no_rooms(self):
        for kind in fields():
            for letters in ("a", "ba", "cab"):
                expected = (letters, (), ((),) * len(letters), ())
                same(self, least(kind, without_rooms(letters)), expected)
                same(self, least(kind, filled(kind, letters, 2, nought(kind))), expected)
                same(self, least(kind, single(kind, letters, letters, nought(kind))), expected)

    def test_by_hand(self):
        kind = Fractions()
        # A word of k letters weighs k by the first, twice as much by two of it.
        count = ("a", whole((1, 0)), whole((((1, 1), (0, 1)),)), whole((0, 1)))
        expected = ("a", whole((1, 0)), whole((((0, 1), (-1, 2)),)), whole((0, 1)))
        same(self, least(kind, count), expected)
        same(self, least(kind, added(kind, count, count)), expected[:3] + (whole((0, 2)),))
        fall = ("a", ((3, 1),), ((((1, 2),),),), ((2, 3),))
        same(self, least(kind, fall), ("a", ((1, 1),), ((((1, 2),),),), ((2, 1),)))
        seven = Residues(7)
        same(self, least(seven, ("ba", (3,), (((5,),), ((2,),)), (4,))), ("ba", (1,), (((5,),), ((2,),)), (5,)))

    def test_where_rooms_weigh_each_other_away(self):
        for kind in fields():
            machine = drawn(kind, "ab", 2, 6)
            other = added(kind, machine, scaled(kind, minus_one(kind), machine))
            same(self, least(kind, other), without_rooms("ab"))
        # In residues of 2 a machine and itself come to nought.
        machine = drawn(Residues(2), "ab", 3, 7)
        same(self, least(Residues(2), added(Residues(2), machine, machine)), without_rooms("ab"))

    def test_twenty_rooms(self):
        for kind in fields():
            machine = ring(kind, "ba", [one(kind)] + [nought(kind)] * 19)
            same(self, least(kind, machine), machine)
            turned_about = put_in_order(machine, [(7 * room + 3) % 20 for room in range(20)])
            same(self, least(kind, turned_about), machine)


def minus_one(kind):
    return (-1, 1) if isinstance(kind, Fractions) else kind.prime - 1


class Paper(unittest.TestCase):
    def test_against_a_walk(self):
        for kind in fields():
            for machine in field_machines(kind):
                told = paper(kind, machine)
                self.assertIsInstance(told, tuple)
                first, last, table, inverse = told
                same(self, first, walked_heads(kind, machine))
                same(self, last, walked_tails(kind, machine))
                weights = weighed(kind, machine, 2 * len(machine[1]))
                same(self, table, tuple([tuple([weights[word + tail] for tail in last]) for word in first]))
                same(self, multiplied(kind, table, inverse), corner_to_corner(kind, len(first)))
                same(self, multiplied(kind, inverse, table), corner_to_corner(kind, len(first)))

    def test_no_rooms(self):
        for kind in fields():
            same(self, paper(kind, without_rooms("ab")), ([], [], (), ()))
            same(self, paper(kind, filled(kind, "ab", 2, nought(kind))), ([], [], (), ()))

    def test_by_hand(self):
        kind = Residues(7)
        machine = single(kind, "ab", "b", 3)
        same(self, paper(kind, machine), (["", "b"], ["", "b"], ((0, 3), (3, 0)), ((0, 5), (5, 0))))

    def test_it_is_the_askers_own(self):
        for kind in fields():
            for machine in (drawn(kind, "ba", 3, 8), without_rooms("ab"), ring(kind, "a", [one(kind)] * 1)):
                told = paper(kind, machine)
                again = paper(kind, machine)
                own(self, told, again)
                told[0].append("more")
                told[1].clear()
                same(self, paper(kind, machine), again)


class OfOtherKinds(unittest.TestCase):
    def test_wrong_kind(self):
        for kind in picking():
            for machine in (
                without_rooms("a"), filled(kind, "ab", 2, nought(kind)), filled(kind, "ba", 3, one(kind)),
                drawn(kind, "cab", 2, 3),
            ):
                for ask in (heads, tails, least, paper):
                    with self.assertRaises(WrongKind):
                        ask(kind, machine)


class ThePromise(unittest.TestCase):
    def test_no_machine_with_fewer_rooms_weighs_so(self):
        # The table of heads and tails by any machine is a table as high as heads and as wide as its rooms
        # by one of its rooms: with fewer rooms it would have no inverse. That it has one is asked of each.
        for kind in fields():
            for machine in field_machines(kind):
                first, last, table, inverse = paper(kind, machine)
                self.assertEqual(len(least(kind, machine)[1]), len(first))
                self.assertEqual(free_of(kind, table), [True] * len(first))

    def test_sums_of_least_machines(self):
        for kind in fields():
            for seed in range(4):
                machine = drawn(kind, "ab", 2, seed)
                other = drawn(kind, "ab", 2, seed + 20)
                told = least(kind, added(kind, least(kind, machine), least(kind, other)))
                same(self, told, least(kind, added(kind, other, machine)))
                left = weighed(kind, machine, 4)
                right = weighed(kind, other, 4)
                expected = {word: total(kind, [left[word], right[word]]) for word in left}
                same(self, weighed(kind, told, 4), expected)
