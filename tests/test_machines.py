import unittest

from reckoned import (
    NO_TEXTS, NeverCompared, all_ways, all_words, dotted, drawn, fields, filled, kinds, nought, one, picking, same,
    walked, walked_ahead, walked_behind, walked_way,
)
from weighwalk.errors import NoWord, TooGreat, WrongKind
from weighwalk.kinds import Costs, Fractions, Residues, Truths
from weighwalk.machines import ahead, behind, best_way, is_machine, rooms, way_weight, ways, weight, words
from weighwalk.tables import dot

HALF = (1, 2)
ONE = (1, 1)
NOUGHT = (0, 1)
EXAMPLE = ("ab", (ONE, NOUGHT), (((NOUGHT, ONE), (HALF, NOUGHT)), ((ONE, ONE), (NOUGHT, ONE))), (NOUGHT, (3, 1)))
NO_LETTERS = (
    "", "abcd", "abcde", "aa", "aba", "abb", "aab", "A", "aB", "Ab", "1", "a1", " ", "a ", " a", "a b", "-", "_", "a\n",
    "\u00e4", "a\u00e9", "\u00df", "\u0430", "\u03b1", "`", "{", "a{",
)
# Words of the letters ab are none of these.
NO_WORDS = (
    "c", "ca", "ac", "abc", "cab", "acb", "abcab", "A", "aB", "Ab", " ", "a b", " ab", "ab ", "-", "a-", "1", "\n",
    "ab\n", "\u00e4", "a\u0430", "a,b", "\x00",
) + NO_TEXTS + (NeverCompared(),)


def some_machines(kind):
    told = [drawn(kind, letters, size, seed) for letters in ("ab", "ba", "b", "cab") for size, seed in ((1, 2), (3, 5))]
    return told + [drawn(kind, "ab", 2, 8), drawn(kind, "ab", 0), drawn(kind, "z", 4, 3)]


def some_words(machine):
    return all_words(machine[0], 2 if len(machine[0]) > 2 else 3)


class Words(unittest.TestCase):
    def test_told(self):
        self.assertEqual(words("a", 3), ["", "a", "aa", "aaa"])
        self.assertEqual(words("ab", 2), ["", "a", "b", "aa", "ab", "ba", "bb"])
        self.assertEqual(words("ba", 2), ["", "b", "a", "bb", "ba", "ab", "aa"])
        self.assertEqual(words("cab", 1), ["", "c", "a", "b"])

    def test_most_nought(self):
        for letters in ("a", "ba", "zxy"):
            self.assertEqual(words(letters, 0), [""])
            self.assertEqual(words(letters, -1), [])

    def test_all_in_order_each_once(self):
        for letters in ("x", "ab", "ba", "abc", "bca"):
            told = words(letters, 4)
            self.assertEqual(len(told), sum([len(letters) ** length for length in range(5)]))
            self.assertEqual(len(set(told)), len(told))
            places = [(len(word), [letters.index(sign) for sign in word]) for word in told]
            self.assertEqual(places, sorted(places))

    def test_each_list_is_the_askers_own(self):
        before = words("ab", 2)
        later = words("ab", 2)
        later.append("no")
        later[0] = "changed"
        self.assertEqual(before, ["", "a", "b", "aa", "ab", "ba", "bb"])
        before.clear()
        self.assertEqual(len(later), 8)
        self.assertEqual(words("ab", 2), ["", "a", "b", "aa", "ab", "ba", "bb"])
        shortest = words("ab", 0)
        shortest.append("a")
        self.assertEqual(words("ab", 0), [""])


def replaced(thing, path, change):
    if not path:
        return change(thing)
    place = path[0]
    return thing[:place] + (replaced(thing[place], path[1:], change),) + thing[place + 1:]


def paths(thing):
    told = [()]
    if isinstance(thing, tuple):
        for place, inner in enumerate(thing):
            told.extend([(place,) + path for path in paths(inner)])
    return told


def at(thing, path):
    for place in path:
        thing = thing[place]
    return thing


def no_weights(kind):
    told = ["", "1", "a", "none", 1.0, 0.5, [], [1, 2], {}, b"1", object(), NeverCompared(), (), (1,), (1, 0), (2, 4)]
    if isinstance(kind, Fractions):
        return told + [0, 1, True, False, None, (True, 1), (1, True), (1, -2), (0, 2)]
    if isinstance(kind, Costs):
        return told + [True, False, (0, 1)]
    if isinstance(kind, Truths):
        return told + [0, 1, None, (1, 1)]
    return told + [True, False, None, -1, kind.prime, kind.prime + 1, (1, 1)]


class IsMachine(unittest.TestCase):
    def test_machines(self):
        self.assertIs(is_machine(Fractions(), EXAMPLE), True)
        for kind in kinds():
            for machine in some_machines(kind):
                self.assertIs(is_machine(kind, machine), True, (kind.told(), machine))

    def test_rooms_from_nought_to_twenty(self):
        for kind in kinds():
            for letters in ("a", "ba", "abc"):
                for size in (0, 1, 19, 20, 21, 22):
                    self.assertIs(is_machine(kind, filled(kind, letters, size, one(kind))), size <= 20, (letters, size))

    def test_lists_for_tuples(self):
        for kind in kinds():
            for machine in (drawn(kind, "ab", 2, 4), drawn(kind, "b", 0)):
                for path in paths(machine):
                    if isinstance(at(machine, path), tuple):
                        self.assertIs(is_machine(kind, replaced(machine, path, list)), False, (kind.told(), path))

    def test_one_more_or_fewer(self):
        for kind in kinds():
            machine = drawn(kind, "ab", 2, 4)
            for path in paths(machine):
                if isinstance(at(machine, path), tuple):
                    fewer = replaced(machine, path, lambda inner: inner[:-1])
                    more = replaced(machine, path, lambda inner: inner + inner[-1:])
                    self.assertIs(is_machine(kind, fewer), False, (kind.told(), path))
                    self.assertIs(is_machine(kind, more), False, (kind.told(), path))

    def test_a_row_of_another_width_where_the_number_of_weights_is_right(self):
        kind = Residues(7)
        self.assertIs(is_machine(kind, ("a", (1, 1), (((1,), (1, 1, 1)),), (1, 1))), False)
        self.assertIs(is_machine(kind, ("a", (1, 1), (((1, 1), (1, 1)),), (1, 1))), True)

    def test_no_rooms_but_something_else(self):
        for kind in kinds():
            x = one(kind)
            for wrong in (
                ("a", (x,), ((),), ()), ("a", (), ((),), (x,)), ("a", (), (((x,),),), ()), ("a", (), (((),),), ()),
                ("a", (), (), ()), ("a", (), ((), ()), ()), ("a", (), (None,), ()), ("a", (), None, ()),
                ("a", None, ((),), ()), ("a", (), ((),), None), ("a", "", ((),), ()), ("a", (), ((),), ""),
                ("a", (), ("",), ()), ("a", (), "a", ()), ("a", {}, ((),), ()),
            ):
                self.assertIs(is_machine(kind, wrong), False, wrong)
            self.assertIs(is_machine(kind, ("a", (), ((),), ())), True)

    def test_weights_that_are_none(self):
        for kind in kinds():
            machine = drawn(kind, "ab", 2, 6)
            weights = [path for path in paths(machine) if kind.is_weight(at(machine, path)) and path != (0,)]
            self.assertEqual(len(weights), 12)
            for path in weights:
                for wrong in no_weights(kind):
                    changed = replaced(machine, path, lambda inner: wrong)
                    self.assertIs(is_machine(kind, changed), False, (kind.told(), path))

    def test_a_machine_of_one_kind_is_none_of_another(self):
        for kind in kinds():
            for other in kinds():
                machine = filled(kind, "a", 1, one(kind))
                alike = kind.told() == other.told() or other.is_weight(one(kind))
                self.assertIs(is_machine(other, machine), alike, (kind.told(), other.told()))

    def test_letters_that_are_none(self):
        for kind in kinds():
            for letters in NO_LETTERS:
                for size in (0, 1):
                    machine = filled(kind, letters, size, one(kind))
                    self.assertIs(is_machine(kind, machine), False, letters)

    def test_letters_that_are_no_text(self):
        for kind in kinds():
            machine = filled(kind, "ab", 1, one(kind))
            for letters in NO_TEXTS + (NeverCompared(),):
                self.assertIs(is_machine(kind, (letters,) + machine[1:]), False, letters)

    def test_every_small_letter(self):
        for letter in "abcdefghijklmnopqrstuvwxyz":
            self.assertIs(is_machine(Truths(), drawn(Truths(), letter, 1)), True)

    def test_things_that_are_no_machines_at_all(self):
        for kind in kinds():
            things = NO_TEXTS + ("", "abcd", "a | 1 | 1 | 1", (1, 2, 3, 4), ("a",), (None,) * 4, NeverCompared(), kind)
            for thing in things:
                self.assertIs(is_machine(kind, thing), False, thing)


class Weights(unittest.TestCase):
    def test_rooms(self):
        for size in (0, 1, 7, 20):
            self.assertEqual(rooms(drawn(Costs(), "ab", size)), size)

    def test_told_example(self):
        kind = Fractions()
        self.assertEqual(weight(kind, EXAMPLE, ""), NOUGHT)
        self.assertEqual(weight(kind, EXAMPLE, "a"), (3, 1))
        self.assertEqual(weight(kind, EXAMPLE, "ba"), (3, 1))
        self.assertEqual(weight(kind, EXAMPLE, "bab"), (9, 2))
        self.assertEqual(ahead(kind, EXAMPLE, "ba"), (HALF, ONE))
        self.assertEqual(behind(kind, EXAMPLE, "ba"), ((3, 1), NOUGHT))

    def test_against_a_walk_over_all_ways(self):
        for kind in kinds():
            for machine in some_machines(kind):
                for word in some_words(machine):
                    same(self, weight(kind, machine, word), walked(kind, machine, word))
                    same(self, ahead(kind, machine, word), walked_ahead(kind, machine, word))
                    same(self, behind(kind, machine, word), walked_behind(kind, machine, word))

    def test_the_empty_word(self):
        for kind in kinds():
            for machine in some_machines(kind):
                same(self, ahead(kind, machine, ""), machine[1])
                same(self, behind(kind, machine, ""), machine[3])
                same(self, weight(kind, machine, ""), dotted(kind, machine[1], machine[3]))

    def test_without_rooms(self):
        for kind in kinds():
            machine = drawn(kind, "ab", 0)
            for word in all_words("ab", 2):
                same(self, ahead(kind, machine, word), ())
                same(self, behind(kind, machine, word), ())
                same(self, weight(kind, machine, word), nought(kind))
                same(self, ways(kind, machine, word), [])

    def test_cut_anywhere(self):
        for kind in kinds():
            for machine in some_machines(kind):
                for word in some_words(machine):
                    for cut in range(len(word) + 1):
                        row = ahead(kind, machine, word[:cut])
                        column = behind(kind, machine, word[cut:])
                        same(self, dot(kind, row, column), walked(kind, machine, word))

    def test_twenty_rooms_and_forty_letters(self):
        word = "ab" * 20
        self.assertEqual(weight(Residues(7), filled(Residues(7), "ab", 20, 1), word), pow(20, 41, 7))
        self.assertEqual(weight(Fractions(), filled(Fractions(), "ab", 20, ONE), word), (20 ** 41, 1))
        self.assertEqual(weight(Costs(), filled(Costs(), "ab", 20, -1), word), -42)
        self.assertIs(weight(Truths(), filled(Truths(), "ab", 20, True), word), True)

    def test_way_weight(self):
        for kind in kinds():
            for machine in some_machines(kind):
                for word in some_words(machine):
                    for way in all_ways(len(machine[1]), word)[:60]:
                        same(self, way_weight(kind, machine, word, way), walked_way(kind, machine, word, way))

    def test_way_weight_of_a_great_machine(self):
        machine = drawn(Costs(), "ab", 20, 4)
        word = "abba" * 10
        way = tuple([(7 * place + 3) % 20 for place in range(41)])
        same(self, way_weight(Costs(), machine, word, way), walked_way(Costs(), machine, word, way))


class Ways(unittest.TestCase):
    def test_told_example(self):
        told = ways(Fractions(), EXAMPLE, "bab")
        self.assertEqual(told, [((0, 0, 1, 1), (3, 1)), ((0, 1, 0, 1), (3, 2))])

    def test_rising_and_none_of_nought(self):
        for kind in kinds():
            for machine in some_machines(kind):
                for word in some_words(machine):
                    weighed = [(way, walked_way(kind, machine, word, way)) for way in all_ways(len(machine[1]), word)]
                    same(self, ways(kind, machine, word), [pair for pair in weighed if pair[1] != nought(kind)])

    def test_just_a_thousand(self):
        for kind in kinds():
            machine = filled(kind, "ab", 10, one(kind))
            told = ways(kind, machine, "ba")
            self.assertEqual([way for way, x in told], all_ways(10, "ba"))
            with self.assertRaises(TooGreat):
                ways(kind, machine, "bab")

    def test_how_many_are_too_many(self):
        # Of each number of rooms how many letters a word may have.
        most = {2: 8, 3: 5, 4: 3, 5: 3, 6: 2, 7: 2, 9: 2, 10: 2, 11: 1, 20: 1}
        for kind in kinds():
            for size, length in most.items():
                machine = filled(kind, "a", size, one(kind))
                self.assertEqual(len(ways(kind, machine, "a" * length)), size ** (length + 1))
                for more in (1, 2, 40 - length):
                    with self.assertRaises(TooGreat):
                        ways(kind, machine, "a" * (length + more))

    def test_too_many_also_where_all_weigh_nought(self):
        for kind in kinds():
            with self.assertRaises(TooGreat):
                ways(kind, filled(kind, "a", 4, nought(kind)), "aaaa")
            self.assertEqual(ways(kind, filled(kind, "a", 5, nought(kind)), "aaa"), [])

    def test_of_one_room_and_of_none_no_word_is_too_long(self):
        for kind in kinds():
            self.assertEqual(ways(kind, filled(kind, "a", 1, one(kind)), "a" * 40), [((0,) * 41, one(kind))])
            self.assertEqual(ways(kind, filled(kind, "a", 0, one(kind)), "a" * 40), [])

    def test_the_list_is_the_askers_own(self):
        kind = Fractions()
        before = ways(kind, EXAMPLE, "bab")
        later = ways(kind, EXAMPLE, "bab")
        later.clear()
        self.assertEqual(len(before), 2)
        before.append("more")
        self.assertEqual(ways(kind, EXAMPLE, "bab"), [((0, 0, 1, 1), (3, 1)), ((0, 1, 0, 1), (3, 2))])


class BestWay(unittest.TestCase):
    def test_against_all_ways(self):
        for kind in picking():
            for machine in some_machines(kind) + [drawn(kind, "ab", 4, seed) for seed in range(8)]:
                for word in some_words(machine):
                    goal = walked(kind, machine, word)
                    found = all_ways(len(machine[1]), word)
                    found = [way for way in found if walked_way(kind, machine, word, way) == goal]
                    expected = None if goal == nought(kind) else min(found)
                    same(self, best_way(kind, machine, word), expected)

    def test_the_least_of_several(self):
        for kind in picking():
            self.assertEqual(best_way(kind, filled(kind, "ab", 3, one(kind)), "abb"), (0, 0, 0, 0))
        # Two ways cost 5; the one that begins dearer is the lesser one.
        machine = ("a", (4, 0), (((1, None), (None, 5)),), (0, 0))
        self.assertEqual(best_way(Costs(), machine, "a"), (0, 0))
        machine = ("a", (4, 0), (((2, None), (None, 5)),), (0, 0))
        self.assertEqual(best_way(Costs(), machine, "a"), (1, 1))
        machine = ("a", (0, None), (((9, 1), (None, -3)),), (-20, 2))
        self.assertEqual(best_way(Costs(), machine, "aa"), (0, 0, 0))

    def test_costs_below_nought(self):
        machine = ("a", (0, 1), (((0, -2), (-3, 0)),), (None, -1))
        self.assertEqual(best_way(Costs(), machine, "aa"), (1, 0, 1))
        self.assertEqual(weight(Costs(), machine, "aa"), -5)

    def test_a_cost_of_0_is_no_nought(self):
        self.assertEqual(best_way(Costs(), ("a", (0,), (((0,),),), (0,)), "a"), (0, 0))

    def test_none_where_the_word_weighs_nought(self):
        for kind in picking():
            self.assertIsNone(best_way(kind, filled(kind, "ab", 3, nought(kind)), "ab"))
            self.assertIsNone(best_way(kind, drawn(kind, "ab", 0), "ab"))
            self.assertIsNone(best_way(kind, drawn(kind, "ab", 0), ""))

    def test_no_word_is_too_long(self):
        for kind in picking():
            machine = filled(kind, "ab", 20, one(kind))
            self.assertEqual(best_way(kind, machine, "ab" * 20), (0,) * 41)
        machine = drawn(Costs(), "ab", 20, 9)
        way = best_way(Costs(), machine, "abbab" * 8)
        self.assertEqual(walked_way(Costs(), machine, "abbab" * 8, way), weight(Costs(), machine, "abbab" * 8))

    def test_wrong_kind(self):
        for kind in fields():
            for size in (0, 2):
                for word in ("", "ab") + NO_WORDS:
                    with self.assertRaises(WrongKind):
                        best_way(kind, drawn(kind, "ab", size), word)


class NoWords(unittest.TestCase):
    def test_each_function_that_takes_a_word(self):
        for kind in kinds():
            for size in (0, 2, 20):
                machine = filled(kind, "ab", size, one(kind))
                for word in NO_WORDS:
                    for function in (ahead, behind, weight, ways):
                        with self.assertRaises(NoWord, msg=(function, word)):
                            function(kind, machine, word)
                    with self.assertRaises(NoWord):
                        way_weight(kind, machine, word, (0, 0))

    def test_best_way(self):
        for kind in picking():
            for size in (0, 2, 20):
                for word in NO_WORDS:
                    with self.assertRaises(NoWord):
                        best_way(kind, filled(kind, "ab", size, one(kind)), word)

    def test_a_sign_at_any_place(self):
        for kind in kinds():
            machine = filled(kind, "ab", 2, one(kind))
            for place in range(9):
                word = "abbabaab"[:place] + "c" + "abbabaab"[place:]
                for function in (ahead, behind, weight, ways):
                    with self.assertRaises(NoWord):
                        function(kind, machine, word)

    def test_ahead_of_too_great(self):
        for kind in kinds():
            with self.assertRaises(NoWord):
                ways(kind, filled(kind, "ab", 20, one(kind)), "ababcab")
            with self.assertRaises(TooGreat):
                ways(kind, filled(kind, "ab", 20, one(kind)), "ababab")

    def test_the_letters_are_the_machines_own(self):
        for kind in kinds():
            self.assertEqual(weight(kind, filled(kind, "xz", 1, one(kind)), "zx"), one(kind))
            with self.assertRaises(NoWord):
                weight(kind, filled(kind, "xz", 1, one(kind)), "y")
