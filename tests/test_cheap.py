import unittest

from reckoned import (
    all_words, chain, drawn, filled, numbers, own, ring, same, steps, thinned, walked_way, weighed, without_rooms,
)
from weighwalk.cheap import cheapest
from weighwalk.kinds import Costs

KIND = Costs()


def least_of(costs):
    return min([x for x in costs if x is not None], default=None)


def both(x, y):
    return None if x is None or y is None else x + y


def cheapest_letters(machine):
    size = len(machine[1])
    return [[least_of([table[q][r] for table in machine[2]]) for r in range(size)] for q in range(size)]


def rounds(machine):
    # For each number of steps up to the rooms, the least cost of just so many steps from room to room.
    size = len(machine[1])
    between = cheapest_letters(machine)
    told = [[[0 if q == r else None for r in range(size)] for q in range(size)]]
    for count in range(size):
        last = told[-1]
        columns = list(zip(*between))
        told.append([[least_of([both(x, y) for x, y in zip(row, column)]) for column in columns] for row in last])
    return told


class Rounds:
    def __init__(self, machine):
        self.size = len(machine[1])
        self.machine = machine
        self.told = rounds(machine)
        every = range(self.size)
        self.shortest = [[least_of([table[q][r] for table in self.told]) for r in every] for q in every]

    def of_use(self):
        letters, start, tables, ends = self.machine
        every = range(self.size)
        come_to = [r for r in every if any([both(start[q], self.shortest[q][r]) is not None for q in every])]
        return [q for q in come_to if any([both(self.shortest[q][r], ends[r]) is not None for r in every])]

    def falls(self):
        return any([least_of([table[room][room] for table in self.told]) < 0 for room in self.of_use()])

    def prices(self):
        start = self.machine[1]
        useful = self.of_use()
        every = range(self.size)
        return [
            least_of([both(start[q], self.shortest[q][r]) for q in every]) if r in useful else None for r in every
        ]

    def least(self):
        return least_of([both(x, y) for x, y in zip(self.prices(), self.machine[3])])


class Checked(unittest.TestCase):
    def walk(self, machine, told, most):
        self.assertIsInstance(told, tuple)
        self.assertEqual(len(told), 2)
        word, way = told
        self.assertIsInstance(word, str)
        self.assertIsInstance(way, tuple)
        self.assertEqual(len(way), len(word) + 1)
        self.assertLessEqual(len(word), most)
        self.assertLessEqual(set(word), set(machine[0]))
        self.assertLessEqual(set(way), set(range(len(machine[1]))))
        gone = steps(machine, word, way)
        self.assertNotIn(None, gone)
        return sum(gone)

    def check_falls(self, machine, told):
        size = len(machine[1])
        self.assertEqual(len(told), 4)
        name, ahead, round_about, behind = told
        self.walk(machine, ahead, size - 1)
        self.assertLess(self.walk(machine, round_about, size), 0)
        self.walk(machine, behind, size - 1)
        self.assertGreaterEqual(len(round_about[0]), 1)
        self.assertIsNotNone(machine[1][ahead[1][0]])
        self.assertIsNotNone(machine[3][behind[1][-1]])
        room = ahead[1][-1]
        self.assertEqual((round_about[1][0], round_about[1][-1], behind[1][0]), (room, room, room))

    def check_least(self, machine, told, reckoned):
        self.assertEqual(len(told), 5)
        name, weight, word, way, prices = told
        same(self, weight, reckoned.least())
        self.walk(machine, (word, way), len(machine[1]) - 1)
        same(self, walked_way(KIND, machine, word, way), weight)
        self.assertIsInstance(prices, list)
        same(self, prices, reckoned.prices())
        self.check_prices(machine, weight, prices)

    def check_prices(self, machine, weight, prices):
        # These alone show that no word is cheaper.
        letters, start, tables, ends = machine
        for room, price in enumerate(prices):
            if price is None:
                continue
            if start[room] is not None:
                self.assertLessEqual(price, start[room])
            if ends[room] is not None:
                self.assertLessEqual(weight, price + ends[room])
            for table in tables:
                for other, cost in enumerate(table[room]):
                    if cost is not None and prices[other] is not None:
                        self.assertLessEqual(prices[other], price + cost)

    def check(self, machine):
        told = cheapest(machine)
        self.assertIsInstance(told, tuple)
        reckoned = Rounds(machine)
        if not reckoned.of_use():
            same(self, told, ("none",))
        elif reckoned.falls():
            self.assertEqual(told[0], "falls")
            self.check_falls(machine, told)
        else:
            self.assertEqual(told[0], "least")
            self.check_least(machine, told, reckoned)
        return told


def scattered(letters, size, seed, share, lowest, span):
    # So many of ten weights are there, from the lowest on.
    source = numbers(seed)

    def row():
        return tuple([lowest + next(source) % span if next(source) % 10 < share else None for _ in range(size)])

    return (letters, row(), tuple([tuple([row() for _ in range(size)]) for _ in letters]), row())


# For scattered: how many of ten weights are there, the lowest one, how many there are.
SPREADS = ((1, -2, 9), (3, -4, 20), (4, -3, 30), (2, 0, 9), (5, -6, 30), (5, 1, 40))


class Against(Checked):
    def test_rounds(self):
        found = {"none": 0, "falls": 0, "least": 0}
        for letters in ("a", "ba", "cab"):
            for size in range(1, 8):
                for seed in range(12):
                    for share, lowest, span in SPREADS:
                        told = self.check(scattered(letters, size, 31 * size + seed, share, lowest, span))
                        found[told[0]] = found[told[0]] + 1
        for name in found:
            self.assertGreater(found[name], 100, found)

    def test_drawn_ones(self):
        for letters in ("a", "ba", "cab"):
            for size in range(0, 6):
                for seed in range(5):
                    self.check(drawn(KIND, letters, size, seed))
                    self.check(thinned(KIND, letters, size, seed))

    def test_all_words_of_small_machines(self):
        found = 0
        for seed in range(150):
            machine = scattered("ba", 1 + seed % 4, seed, 3, -1, 12)
            told = cheapest(machine)
            weights = weighed(KIND, machine, 6)
            if told[0] == "none":
                self.assertEqual(set(weights.values()), {None})
            if told[0] == "least":
                same(self, told[1], least_of(weights.values()))
                same(self, told[1], weights[told[2]])
                found = found + 1
        self.assertGreater(found, 20)

    def test_a_ring_gone_round_more_often_is_cheaper_each_time(self):
        found = 0
        for seed in range(60):
            machine = scattered("ab", 1 + seed % 5, seed, 5, -4, 12)
            told = cheapest(machine)
            if told[0] == "falls":
                found = found + 1
                ahead, around, behind = told[1:]
                costs = []
                for count in range(4):
                    word = ahead[0] + around[0] * count + behind[0]
                    way = ahead[1] + around[1][1:] * count + behind[1][1:]
                    costs.append(walked_way(KIND, machine, word, way))
                self.assertEqual(costs, sorted(costs, reverse=True))
                self.assertEqual(len(set(costs)), 4)
        self.assertGreater(found, 20)

    def test_each_number_of_rooms(self):
        for size in range(0, 21):
            for seed in range(2):
                self.check(scattered("ab", size, 7 * size + seed, 2, 0, 50))
                self.check(scattered("ab", size, 7 * size + seed, 2, -6, 50))

    def test_somewhat_more_than_twenty_rooms(self):
        for size in (21, 23):
            for lowest in (0, -4):
                self.check(scattered("a", size, size, 3, lowest, 30))

    def test_great_costs(self):
        great = 10 ** 30 - 1
        for size in (1, 2, 5):
            for seed in range(10):
                letters, start, tables, ends = scattered("ab", size, seed, 5, -1, 12)

                def grown(row):
                    return tuple([None if x is None else x * (great // 12) + x for x in row])

                tables = tuple([tuple([grown(row) for row in table]) for table in tables])
                self.check((letters, grown(start), tables, grown(ends)))
        told = cheapest(("a", (great,), (((0,),),), (great,)))
        self.assertEqual(told, ("least", 2 * great, "", (0,), [great]))
        told = cheapest(("a", (-great,), (((1,),),), (-great,)))
        self.assertEqual(told, ("least", -2 * great, "", (0,), [-great]))


class ByHand(Checked):
    def test_no_room_of_use(self):
        none = filled(KIND, "ab", 3, None)
        full = filled(KIND, "ab", 3, 0)
        apart = ("a", (0, None), (((0, None), (-1, -1)),), (None, 0))
        for machine in (
            without_rooms("a"), without_rooms("cab"), none, ("ab", none[1]) + full[2:], full[:3] + (none[3],), apart,
        ):
            same(self, cheapest(machine), ("none",))

    def test_a_start_and_an_end_at_one_room(self):
        same(self, cheapest(("a", (3,), (((None,),),), (-5,))), ("least", -2, "", (0,), [3]))
        same(self, cheapest(("ab", (0,), (((0,),), ((1,),)), (0,))), ("least", 0, "", (0,), [0]))
        told = cheapest(("ab", (None, 4), (((None, None), (None, None)),) * 2, (7, 0)))
        same(self, told, ("least", 4, "", (1,), [None, 4]))

    def test_the_least_one_is_longer(self):
        machine = ("ab", (0, None, None), (
            ((None, 5, None), (None, None, 5), (None, None, None)),
            ((None, 1, 9), (None, None, -3), (None, None, None)),
        ), (4, None, 2))
        same(self, cheapest(machine), ("least", 0, "bb", (0, 1, 2), [0, 1, -2]))

    def test_each_letter_counts_where_it_is_the_cheaper_one(self):
        for letters in ("abc", "cab"):
            for place in range(3):
                rows = [((None, 1 if place == other else 2), (None, None)) for other in range(3)]
                told = cheapest((letters, (0, None), tuple(rows), (None, 0)))
                same(self, told, ("least", 1, letters[place], (0, 1), [0, 1]))

    def test_a_ring_below_0(self):
        told = cheapest(("a", (0,), (((-1,),),), (0,)))
        self.check_falls(("a", (0,), (((-1,),),), (0,)), told)
        same(self, told[2], ("a", (0, 0)))
        machine = ("ab", (None, 9), (((None, 3), (None, None)), ((None, None), (-4, None))), (9, None))
        told = self.check(machine)
        self.assertEqual(told[0], "falls")
        self.assertIn(told[2], (("ab", (0, 1, 0)), ("ba", (1, 0, 1))))

    def test_a_ring_below_0_beside_the_cheapest_way(self):
        # The ring is dear to come to and to leave, but it is of use.
        machine = ("a", (0, 100), (((None, None), (100, -1)),), (0, None))
        self.assertEqual(self.check(machine)[0], "falls")

    def test_a_ring_that_comes_to_just_0(self):
        machine = ("ab", (0, None), (((None, 3), (None, None)), ((None, None), (-3, None))), (1, 0))
        told = self.check(machine)
        same(self, told[1], 1)
        same(self, told[4], [0, 3])
        same(self, cheapest(("a", (2,), (((0,),),), (3,))), ("least", 5, "", (0,), [2]))
        machine = ("ab", (0, None), (((None, 3), (None, None)), ((None, None), (-4, None))), (1, 0))
        self.assertEqual(self.check(machine)[0], "falls")
        machine = ("ab", (0, None), (((None, 3), (None, None)), ((None, None), (-2, None))), (1, 0))
        self.assertEqual(self.check(machine)[0], "least")

    def test_rings_that_come_to_just_0_among_many_rooms(self):
        for size in (2, 5, 20):
            for last, name in ((1 - size, "least"), (-size, "falls"), (2 - size, "least")):
                rows = [[None] * size for room in range(size)]
                for room in range(size):
                    rows[room][(room + 1) % size] = 1 if room < size - 1 else last
                table = tuple([tuple(row) for row in rows])
                first = (0,) + (None,) * (size - 1)
                self.assertEqual(self.check(("a", first, (table,), first))[0], name)
                self.assertEqual(self.check(("a", first, (table,), first[::-1]))[0], name)

    def test_rings_below_0_through_rooms_of_no_use(self):
        # Room 1 is come to but leads to no end; room 2 leads to an end but isn't come to; room 3 is neither.
        table = ((2, -9, None, None), (None, -1, None, None), (-9, None, -1, None), (None, None, None, -1))
        machine = ("a", (5, None, None, None), (table,), (6, None, None, None))
        same(self, cheapest(machine), ("least", 11, "", (0,), [5, None, None, None]))
        self.check(machine)
        machine = ("a", (5, 0, None, None), (table,), (6, None, 0, None))
        same(self, cheapest(machine), ("least", 11, "", (0,), [5, None, None, None]))
        machine = ("a", (5, None, 0, None), (table,), (6, None, None, None))
        self.assertEqual(self.check(machine)[0], "falls")
        machine = ("a", (5, None, None, None), (table,), (6, 0, None, None))
        self.assertEqual(self.check(machine)[0], "falls")
        machine = ("a", (None, 5, None, 5), (table,), (6, None, 6, None))
        same(self, cheapest(machine), ("none",))

    def test_twenty_rooms_in_a_row(self):
        machine = chain(KIND, "ba", [None] * 19 + [3])
        told = cheapest(machine)
        same(self, told, ("least", 3, "b" * 19, tuple(range(20)), [0] * 20))
        machine = ring(KIND, "ba", [None] * 19 + [3])
        same(self, cheapest(machine), ("least", 3, "b" * 19, tuple(range(20)), [0] * 20))

    def test_a_ring_of_twenty_rooms(self):
        letters, start, tables, ends = ring(KIND, "ab", [None] * 19 + [3])
        below = (tables[0][:19] + ((-1,) + tables[0][19][1:],),) + tables[1:]
        told = self.check((letters, start, below, ends))
        self.assertEqual(told[0], "falls")
        self.assertEqual(told[2][0], "a" * 20)

    def test_costs_below_0_without_a_ring(self):
        size = 6
        rows = [tuple([-7 if r > q else None for r in range(size)]) for q in range(size)]
        machine = ("a", (-1,) * size, (tuple(rows),), (-2,) * size)
        told = cheapest(machine)
        same(self, told, ("least", -38, "aaaaa", (0, 1, 2, 3, 4, 5), [-1, -8, -15, -22, -29, -36]))


class OwnLists(Checked):
    def test_prices_are_the_askers_own(self):
        machine = scattered("ab", 4, 3, 6, 0, 9)
        told = cheapest(machine)
        self.assertEqual(told[0], "least")
        own(self, told, cheapest(machine))
        before = list(told[4])
        told[4].append(1)
        told[4][0] = "changed"
        same(self, cheapest(machine)[4], before)

    def test_asked_again_it_is_the_same(self):
        for seed in range(30):
            machine = scattered("ab", 1 + seed % 6, seed, 4, -2, 12)
            same(self, cheapest(machine), cheapest(machine))
            self.assertEqual(machine, scattered("ab", 1 + seed % 6, seed, 4, -2, 12))

    def test_each_word_of_the_letters_is_no_cheaper(self):
        machine = scattered("ab", 3, 8, 7, 0, 9)
        told = cheapest(machine)
        weights = weighed(KIND, machine, 5)
        self.assertEqual(sorted(weights), sorted(all_words("ab", 5)))
        self.assertEqual(min([x for x in weights.values() if x is not None]), told[1])
