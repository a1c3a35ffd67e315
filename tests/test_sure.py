import itertools
import math
import unittest

from reckoned import all_words, drawn, filled, own, put_in_order, same, walked, walked_ahead, without_rooms
from weighwalk.building import added, single
from weighwalk.errors import TooGreat, Unlike
from weighwalk.kinds import Truths
from weighwalk.machines import is_machine, weight
from weighwalk.sure import least_sure, sets_of, sure, sure_alike

KIND = Truths()


def from_steps(letters, size, starts, steps, ends):
    # steps has for each letter a list of pairs of rooms.
    tables = [tuple([tuple([(q, r) in pairs for r in range(size)]) for q in range(size)]) for pairs in steps]
    return (letters, tuple([q in starts for q in range(size)]), tuple(tables), tuple([q in ends for q in range(size)]))


def around(letters, sizes, ends):
    # Rings beside one another, gone through by the first letter; the others lead nowhere.
    pairs = []
    starts = []
    first = 0
    for size in sizes:
        pairs.extend([(first + room, first + (room + 1) % size) for room in range(size)])
        starts.append(first)
        first = first + size
    return from_steps(letters, first, starts, [pairs] + [[]] * (len(letters) - 1), ends)


def along(letters, size, ends):
    # Rooms in a row, gone through by every letter; behind the last one no room is left.
    pairs = [(room, room + 1) for room in range(size - 1)]
    return from_steps(letters, size, [0], [pairs] * len(letters), ends)


def sparse(letters, size, seed):
    # Few enough steps that there are few sets.
    machine = drawn(KIND, letters, size, seed)

    def thin(room, row):
        return tuple([x and (room * 5 + other * 3 + seed) % 3 == 0 for other, x in enumerate(row)])

    tables = [tuple([thin(room, row) for room, row in enumerate(table)]) for table in machine[2]]
    return (letters, machine[1], tuple(tables), machine[3])


def some_machines():
    told = [without_rooms("a"), without_rooms("cab")]
    for letters in ("a", "b", "ab", "ba", "cab", "bca"):
        for size in (1, 2, 3):
            for seed in range(6):
                told.append(drawn(KIND, letters, size, seed))
                told.append(sparse(letters, size + 1, seed))
    for letters in ("a", "ba", "cab"):
        told.append(filled(KIND, letters, 2, False))
        told.append(filled(KIND, letters, 2, True))
        told.append(along(letters, 4, [1, 3]))
        told.append(around(letters, [3], [0]))
        told.append(single(KIND, letters, letters, True))
        told.append((letters, (False, False)) + filled(KIND, letters, 2, True)[2:])
    return told


def walked_set(machine, word):
    return tuple([room for room, x in enumerate(walked_ahead(KIND, machine, word)) if x])


class Walk:
    # The sets of all words up to a length at which no new one comes any more.
    def __init__(self, machine):
        self.machine = machine
        letters, start, tables, ends = machine
        self.of = {"": tuple([room for room, x in enumerate(start) if x])}
        last = [""]
        found = set(self.of.values())
        while True:
            last = [word + letter for word in last for letter in letters]
            for word in last:
                table = tables[letters.index(word[-1])]
                rows = [table[room] for room in self.of[word[:-1]]]
                self.of[word] = tuple([r for r in range(len(start)) if any(row[r] for row in rows)])
            fresh = {self.of[word] for word in last} - found
            if not fresh:
                break
            found = found | fresh

    def sets(self):
        return list(dict.fromkeys(self.of.values()))

    def step(self, within, letter):
        table = self.machine[2][self.machine[0].index(letter)]
        return tuple([r for r in range(len(table)) if any(table[room][r] for room in within)])


def told_weights(machine, words):
    return {word: walked_quickly(machine, word) for word in words}


def walked_quickly(machine, word):
    letters, start, tables, ends = machine
    row = start
    for letter in word:
        table = tables[letters.index(letter)]
        row = [any(row[q] and table[q][r] for q in range(len(row))) for r in range(len(row))]
    return any(x and y for x, y in zip(row, ends))


class Sets(unittest.TestCase):
    def test_against_a_walk(self):
        for machine in some_machines():
            told = sets_of(machine)
            self.assertIsInstance(told, list)
            same(self, told, Walk(machine).sets())

    def test_against_all_ways(self):
        for machine in some_machines()[::7]:
            found = [walked_set(machine, word) for word in all_words(machine[0], 3)]
            self.assertEqual(sets_of(machine)[:len(set(found))], list(dict.fromkeys(found)))

    def test_the_order_of_the_letters(self):
        # From the first room each letter leads to a room of its own, from which none leads on.
        room_of = {"a": 1, "b": 2, "c": 3}
        for letters in ("abc", "cab", "bca", "ba", "cb"):
            machine = from_steps(letters, 4, [0], [[(0, room_of[letter])] for letter in letters], [3])
            same(self, sets_of(machine), [(0,)] + [(room_of[letter],) for letter in letters] + [()])

    def test_the_empty_set(self):
        same(self, sets_of(along("a", 3, [2])), [(0,), (1,), (2,), ()])
        same(self, sets_of(filled(KIND, "ba", 3, False)), [()])
        nothing = (False, False)
        same(self, sets_of(("a", nothing, (((True, True),) * 2,), (True, True))), [()])
        same(self, sets_of(("ba", (True,), (((False,),), ((True,),)), (True,))), [(0,), ()])

    def test_without_rooms(self):
        for letters in ("a", "ba", "cab"):
            same(self, sets_of(without_rooms(letters)), [()])

    def test_rooms_rise(self):
        machine = from_steps("a", 4, [3, 0, 2], [[(3, 0), (0, 3), (2, 1)]], [])
        same(self, sets_of(machine), [(0, 2, 3), (0, 1, 3), (0, 3)])

    def test_they_are_the_askers_own(self):
        machine = along("ba", 3, [2])
        told = sets_of(machine)
        kept = list(told)
        sets_of(machine).clear()
        self.assertEqual(told, kept)
        told.append("more")
        same(self, sets_of(machine), kept)


class Sure(unittest.TestCase):
    def is_sure(self, machine):
        self.assertIs(is_machine(KIND, machine), True)
        self.assertEqual(machine[1].count(True), 1)
        for table in machine[2]:
            for row in table:
                self.assertEqual(row.count(True), 1)

    def test_against_a_walk(self):
        for machine in some_machines():
            walk = Walk(machine)
            found = walk.sets()
            told = sure(machine)
            self.is_sure(told)
            start = tuple([place == 0 for place in range(len(found))])
            tables = [
                tuple([tuple([walk.step(within, letter) == other for other in found]) for within in found])
                for letter in machine[0]
            ]
            ends = tuple([any(machine[3][room] for room in within) for within in found])
            same(self, told, (machine[0], start, tuple(tables), ends))

    def test_each_word_weighs_what_it_did(self):
        for machine in some_machines():
            most = {1: 8, 2: 5, 3: 4}[len(machine[0])]
            words = all_words(machine[0], most)
            expected = told_weights(machine, words)
            for told in (sure(machine), least_sure(machine)):
                self.is_sure(told)
                same(self, told_weights(told, words), expected)
        for machine in some_machines()[::9]:
            for word in all_words(machine[0], 3):
                same(self, weight(KIND, sure(machine), word), walked(KIND, machine, word))

    def test_without_rooms(self):
        for letters in ("a", "ba", "cab"):
            expected = (letters, (True,), (((True,),),) * len(letters), (False,))
            for machine in (without_rooms(letters), filled(KIND, letters, 3, False)):
                same(self, sure(machine), expected)
                same(self, least_sure(machine), expected)

    def test_by_hand(self):
        # The words in which the last letter but one is a.
        machine = from_steps("ab", 3, [0], [[(0, 0), (0, 1), (1, 2)], [(0, 0), (1, 2)]], [2])
        same(self, sets_of(machine), [(0,), (0, 1), (0, 1, 2), (0, 2)])
        expected = from_steps("ab", 4, [0], [
            [(0, 1), (1, 2), (2, 2), (3, 1)], [(0, 0), (1, 3), (2, 3), (3, 0)],
        ], [2, 3])
        self.assertEqual(expected[2][0][:2], ((False, True, False, False), (False, False, True, False)))
        same(self, sure(machine), expected)
        same(self, least_sure(machine), expected)

    def test_its_own_sure_machine_is_the_same(self):
        for machine in some_machines():
            told = sure(machine)
            same(self, sure(told), told)
            same(self, sure(machine), told)


class LeastSure(unittest.TestCase):
    def expected(self, machine):
        # Two words are of one sort where they weigh the same with all these words behind.
        letters = machine[0]
        walk = Walk(machine)
        most = {1: 12, 2: 7, 3: 5}[len(letters)]
        endings = all_words(letters, most)
        sort_of = {}
        for within in walk.sets():
            sort_of[within] = tuple([self.ends_behind(walk, within, ending) for ending in endings])
        sorts = list(dict.fromkeys(sort_of.values()))
        firsts = [next(within for within in walk.sets() if sort_of[within] == one) for one in sorts]
        tables = [
            tuple([tuple([sort_of[walk.step(within, letter)] == one for one in sorts]) for within in firsts])
            for letter in letters
        ]
        ends = tuple([self.ends_behind(walk, within, "") for within in firsts])
        return (letters, tuple([place == 0 for place in range(len(sorts))]), tuple(tables), ends)

    def ends_behind(self, walk, within, word):
        for letter in word:
            within = walk.step(within, letter)
        return any(walk.machine[3][room] for room in within)

    def test_against_a_walk(self):
        for machine in some_machines():
            if len(Walk(machine).sets()) <= {1: 12, 2: 7, 3: 5}[len(machine[0])]:
                same(self, least_sure(machine), self.expected(machine))

    def test_its_own_least_sure_machine_is_the_same(self):
        for machine in some_machines():
            told = least_sure(machine)
            same(self, least_sure(told), told)
            same(self, least_sure(sure(machine)), told)
            same(self, sure(told), told)
            same(self, least_sure(machine), told)

    def test_machines_made_of_one_another(self):
        for machine in some_machines():
            order = list(range(len(machine[1])))[::-1]
            for other in (put_in_order(machine, order), added(KIND, machine, machine)):
                same(self, least_sure(other), least_sure(machine))

    def test_by_hand(self):
        # Even numbers of letters, by a ring of six rooms: two sorts.
        machine = around("a", [6], [0, 2, 4])
        same(self, least_sure(machine), around("a", [2], [0]))
        # Only far down a row do two words part.
        machine = around("a", [9], [8])
        same(self, least_sure(machine), machine)
        same(self, least_sure(along("ba", 6, [0, 1, 2, 3, 4, 5])), from_steps(
            "ba", 7, [0], [[(q, min(q + 1, 6)) for q in range(7)]] * 2, range(6)))
        same(self, least_sure(filled(KIND, "ba", 3, True)), filled(KIND, "ba", 1, True))

    def test_the_order_of_the_first_words(self):
        # By the second letter at once, by the first one later, a room with an end is come to.
        for letters in ("ab", "ba"):
            machine = from_steps(letters, 4, [0], [
                [(0, 1), (1, 1), (2, 3), (3, 3)], [(0, 2), (1, 2), (2, 2), (3, 1)],
            ], [3])
            same(self, least_sure(machine), from_steps(letters, 3, [0], [
                [(0, 0), (1, 2), (2, 2)], [(0, 1), (1, 1), (2, 0)],
            ], [2]))

    def test_twenty_sets_to_few_sorts(self):
        same(self, least_sure(around("a", [4, 5], range(9))), filled(KIND, "a", 1, True))
        same(self, least_sure(around("a", [20], range(0, 20, 2))), around("a", [2], [0]))


class Alike(unittest.TestCase):
    def words(self, machine, other):
        # The pair of each word, by the length at which no new pair comes any more.
        letters = machine[0]
        left, right = Walk(machine), Walk(other)
        pair_of = {"": (left.of[""], right.of[""])}
        last = [""]
        found = set(pair_of.values())
        while last:
            fresh = []
            for word, letter in itertools.product(last, letters):
                pair = pair_of[word]
                after = (left.step(pair[0], letter), right.step(pair[1], letter))
                if after not in found:
                    found.add(after)
                    pair_of[word + letter] = after
                    fresh.append(word + letter)
            last = fresh
        return pair_of

    def check(self, machine, other):
        pair_of = self.words(machine, other)
        for word, (left, right) in pair_of.items():
            if any(machine[3][room] for room in left) != any(other[3][room] for room in right):
                same(self, sure_alike(machine, other), ("no", word))
                return "no"
        told = sure_alike(machine, other)
        self.assertIsInstance(told[1], list)
        same(self, told, ("yes", list(pair_of.values())))
        return "yes"

    def test_every_two_of_some(self):
        machines = some_machines()
        answers = []
        for letters in ("a", "ba", "cab"):
            chosen = [machine for machine in machines if machine[0] == letters][::2]
            for machine in chosen:
                for other in chosen:
                    answers.append(self.check(machine, other))
        self.assertGreater(answers.count("yes"), 50)
        self.assertGreater(answers.count("no"), 200)

    def test_the_first_word_of_all(self):
        for letters, most in (("a", 7), ("ba", 4), ("cab", 3)):
            machines = [machine for machine in some_machines() if machine[0] == letters][::3]
            for machine in machines:
                for other in machines:
                    words = all_words(letters, most)
                    unlike = [word for word in words if walked_quickly(machine, word) != walked_quickly(other, word)]
                    told = sure_alike(machine, other)
                    if unlike:
                        same(self, told, ("no", unlike[0]))
                    elif told[0] == "no":
                        self.assertGreater(len(told[1]), most)

    def test_pairs_of_all_words(self):
        for letters, most in (("a", 9), ("ba", 5), ("cab", 4)):
            for machine in [machine for machine in some_machines() if machine[0] == letters][::2]:
                other = sure(machine)
                if len(sets_of(machine)) <= most:
                    left, right = Walk(machine), Walk(other)
                    sets = {word: self.pair(left, right, word) for word in all_words(letters, most)}
                    same(self, sure_alike(machine, other), ("yes", list(dict.fromkeys(sets.values()))))

    def pair(self, left, right, word):
        first, second = left.of[""], right.of[""]
        for letter in word:
            first, second = left.step(first, letter), right.step(second, letter)
        return (first, second)

    def test_machines_made_of_one_another(self):
        for machine in some_machines():
            for other in (machine, sure(machine), least_sure(machine), added(KIND, machine, machine)):
                self.assertEqual(self.check(machine, other), "yes")
                self.assertEqual(self.check(other, machine), "yes")

    def test_just_where_least_sure_machines_are_equal(self):
        for letters in ("a", "ba", "cab"):
            chosen = [machine for machine in some_machines() if machine[0] == letters][1::2]
            for machine in chosen:
                for other in chosen:
                    equal = least_sure(machine) == least_sure(other)
                    self.assertEqual(sure_alike(machine, other)[0], "yes" if equal else "no")

    def test_without_rooms(self):
        for letters in ("a", "ba", "cab"):
            empty = without_rooms(letters)
            same(self, sure_alike(empty, empty), ("yes", [((), ())]))
            same(self, sure_alike(empty, filled(KIND, letters, 1, True)), ("no", ""))
            same(self, sure_alike(filled(KIND, letters, 1, False), empty), ("yes", [((), ())]))
            same(self, sure_alike(single(KIND, letters, letters, True), empty), ("no", letters))

    def test_one_word_more(self):
        for letters, most in (("a", 4), ("ba", 3), ("cab", 2)):
            none = without_rooms(letters)
            for word in all_words(letters, most):
                machine = single(KIND, letters, word, True)
                same(self, sure_alike(machine, none), ("no", word))
                for other in all_words(letters, most):
                    order = all_words(letters, most)
                    told = sure_alike(machine, single(KIND, letters, other, True))
                    if word == other:
                        self.assertEqual(told[0], "yes")
                    else:
                        same(self, told, ("no", min(word, other, key=order.index)))

    def test_more_than_twenty_pairs(self):
        for m, n in ((19, 20), (7, 9), (20, 20), (4, 10)):
            machine = around("a", [m], range(m))
            other = around("a", [n], range(n))
            expected = [((k % m,), (k % n,)) for k in range(math.lcm(m, n))]
            same(self, sure_alike(machine, other), ("yes", expected))

    def test_long_words(self):
        # One of these two rings has an end, but for the word of nineteen letters.
        rings = around("a", [4, 5], [0, 1, 2, 4, 5, 6, 7])
        same(self, sure_alike(rings, around("a", [1], [0])), ("no", "a" * 19))
        same(self, sure_alike(around("a", [19], [18]), around("a", [20], [18])), ("no", "a" * 37))
        every = around("ba", [18], range(18))
        same(self, sure_alike(every, along("ba", 19, range(18))), ("no", "a"))
        same(self, sure_alike(along("ba", 19, range(19)), along("ba", 19, range(18))), ("no", "b" * 18))

    def test_it_is_the_askers_own(self):
        machine = along("ba", 3, [2])
        told = sure_alike(machine, sure(machine))
        again = sure_alike(machine, sure(machine))
        own(self, told, again)
        told[1].clear()
        same(self, sure_alike(machine, sure(machine)), again)


class TooManySets(unittest.TestCase):
    def test_just_twenty(self):
        for machine in (
            along("ba", 19, [18]), around("a", [20], [3]), around("a", [4, 5], [3]), around("ab", [19], [3]),
        ):
            self.assertEqual(len(sets_of(machine)), 20)
            self.assertEqual(len(sure(machine)[1]), 20)
            self.assertIs(is_machine(KIND, sure(machine)), True)
            self.assertEqual(len(sure_alike(machine, machine)[1]), 20)
            same(self, sure_alike(machine, least_sure(machine))[0], "yes")

    def too_many(self):
        # By the last one the words weigh yes in which the last letter but eighteen is a b.
        pairs = [(0, 0)] + [(room, room + 1) for room in range(1, 19)]
        far = from_steps("ba", 20, [0], [pairs + [(0, 1)], pairs], [19])
        return [
            along("ba", 20, [19]), around("ba", [20], [3]), around("ba", [3, 7], range(10)), around("ba", [21], []),
            along("ba", 20, []), far,
        ]

    def test_more_than_twenty(self):
        few = [without_rooms("ba"), filled(KIND, "ba", 1, True), along("ba", 19, [18])]
        for machine in self.too_many():
            for ask in (sets_of, sure, least_sure):
                with self.assertRaises(TooGreat):
                    ask(machine)
            for other in few + [machine]:
                with self.assertRaises(TooGreat):
                    sure_alike(machine, other)
                with self.assertRaises(TooGreat):
                    sure_alike(other, machine)

    def test_by_the_last_of_the_letters(self):
        # Nineteen sets in a ring by the first letter; from its last room the third leads to a row of rooms more.
        for more, ask in itertools.product((0, 1, 2, 3), (sets_of, sure, least_sure)):
            pairs = [(room, (room + 1) % 18) for room in range(18)]
            row = [(17 + room, 18 + room) for room in range(more)]
            machine = from_steps("cab", 18 + more, [0], [pairs, [], row], [])
            if 18 + 1 + more > 20:
                with self.assertRaises(TooGreat):
                    ask(machine)
            else:
                ask(machine)

    def test_unlike_comes_first(self):
        few = drawn(KIND, "ab", 2)
        for machine in self.too_many():
            for other in (few, drawn(KIND, "b", 1), without_rooms("cab"), along("ab", 20, [3])):
                with self.assertRaises(Unlike):
                    sure_alike(machine, other)
                with self.assertRaises(Unlike):
                    sure_alike(other, machine)


class UnlikeLetters(unittest.TestCase):
    def test_refused(self):
        for first, second in (("a", "b"), ("ab", "a"), ("a", "ab"), ("ab", "ba"), ("abc", "acb"), ("ab", "ac")):
            for m, n in ((2, 2), (0, 0), (0, 1), (1, 0)):
                with self.assertRaises(Unlike):
                    sure_alike(drawn(KIND, first, m), drawn(KIND, second, n))

    def test_equal_texts_are_not_unlike(self):
        machine = drawn(KIND, "".join(["b", "a"]), 2)
        self.assertEqual(sure_alike(drawn(KIND, "ba", 2), machine)[0], "yes")
