"""The promise over the whole program: sayings, machines, least machines, papers and the desk beside one another."""

import unittest

from reckoned import (
    closable, corner_to_corner, drawn_saying, fields, kinds, multiplied, nought, numbers, other_than_nought,
    picking, put_together, row_put, said, same, walked_way, weighed, written, written_saying,
)
from weighwalk.alike import alike
from weighwalk.cheap import cheapest
from weighwalk.desk import Desk
from weighwalk.errors import TooGreat
from weighwalk.kinds import Costs, Truths
from weighwalk.learn import learnt
from weighwalk.least import least, paper
from weighwalk.machines import rooms, weight
from weighwalk.sayings import built, read_saying, said_weight
from weighwalk.sure import least_sure, sure_alike
from weighwalk.texts import read_machine, shown_machine


def sayings(kind, letters, count, high=3):
    source = numbers(count + high)
    told = []
    while len(told) < count:
        saying = drawn_saying(kind, letters, source, high)
        if closable(kind, saying):
            told.append(saying)
    return told


def least_of(kind, machine):
    return least_sure(machine) if isinstance(kind, Truths) else least(kind, machine)


def said_alike(kind):
    # Pairs of sayings by which each word weighs the same, whatever the kind.
    x = other_than_nought(kind)[-1]
    y = other_than_nought(kind)[0]
    a = ("word", "a")
    b = ("times", x, ("word", "b"))
    ab = ("sum", ("word", "ab"), ("times", y, ("word", "aa")))
    told = []
    for first, second, third in ((a, b, ab), (b, ab, a), (ab, a, b)):
        told.extend([
            (("sum", first, second), ("sum", second, first)),
            (("sum", first, ("nil",)), first),
            (("then", ("then", first, second), third), ("then", first, ("then", second, third))),
            (("then", first, ("word", "")), first),
            (("then", first, ("sum", second, third)), ("sum", ("then", first, second), ("then", first, third))),
            (("back", ("then", first, second)), ("then", ("back", second), ("back", first))),
            (("back", ("back", ("star", first))), ("star", first)),
            (("times", x, ("sum", first, second)), ("sum", ("times", x, first), ("times", x, second))),
            (("times", nought(kind), ("star", first)), ("nil",)),
            (("star", first), ("sum", ("word", ""), ("then", first, ("star", first)))),
            (("then", first, ("star", first)), ("then", ("star", first), first)),
            (("both", first, second), ("both", second, first)),
        ])
    told.append((("star", ("sum", a, b)), ("then", ("star", a), ("star", ("then", b, ("star", a))))))
    told.append((("both", ("star", a), ab), ("times", y, ("word", "aa"))))
    told.append((("word", "abba"), ("then", ("word", "ab"), ("back", ("word", "ab")))))
    return told


class OneSaying(unittest.TestCase):
    def test_each_word_weighs_the_same_by_all(self):
        for kind in kinds():
            for letters, most in (("ab", 4), ("ba", 3), ("c", 8), ("bca", 3)):
                for saying in sayings(kind, letters, 25):
                    machine = built(kind, letters, saying)
                    weights = weighed(kind, machine, most)
                    again = read_machine(kind, shown_machine(kind, machine))
                    same(self, again, machine)
                    for word, x in weights.items():
                        same(self, said_weight(kind, saying, word), x)
                        if len(word) < 4:
                            same(self, said(kind, saying, word), x)
                            same(self, weight(kind, machine, word), x)
                    if not isinstance(kind, Costs):
                        same(self, weighed(kind, least_of(kind, machine), most), weights)

    def test_at_the_desk(self):
        for kind in kinds():
            desk = Desk(kind, "ab")
            for saying in sayings(kind, "ab", 20):
                self.assertEqual(desk.say("say x " + written_saying(kind, saying)), "ok")
                machine = built(kind, "ab", saying)
                same(self, read_saying(kind, "ab", written_saying(kind, saying)), saying)
                same(self, desk.say("rooms x"), str(rooms(machine)))
                for word, x in weighed(kind, machine, 3).items():
                    same(self, desk.say("weigh x " + (word or "-")), written(kind, x))
                if isinstance(kind, Costs):
                    told = cheapest(machine)
                    same(self, desk.say("cheapest x"), written(kind, told[1]) if told[0] == "least" else told[0])
                else:
                    self.assertEqual(desk.say("least y x"), "ok")
                    same(self, desk.say("show y"), shown_machine(kind, least_of(kind, machine)))
                    same(self, desk.say("alike x y"), "yes")

    def test_no_machine_with_fewer_rooms_does(self):
        for kind in fields():
            for saying in sayings(kind, "ab", 20):
                machine = built(kind, "ab", saying)
                small = least(kind, machine)
                heads, tails, table, inverse = paper(kind, machine)
                self.assertEqual(len(heads), rooms(small))
                expected = tuple([tuple([said_weight(kind, saying, h + t) for t in tails]) for h in heads])
                same(self, table, expected)
                same(self, multiplied(kind, table, inverse), corner_to_corner(kind, len(heads)))
                same(self, least(kind, small), small)

    def test_learnt_from_what_is_said(self):
        for kind in fields():
            found = 0
            for letters, most in (("ab", 4), ("c", 8), ("bca", 3)):
                for saying in sayings(kind, letters, 25):
                    small = least(kind, built(kind, letters, saying))
                    if rooms(small) <= most:
                        found = found + 1
                        told = learnt(kind, letters, lambda word: said_weight(kind, saying, word), most)
                        same(self, told, small)
            self.assertGreater(found, 30)


class TwoSayings(unittest.TestCase):
    def test_those_that_say_the_same(self):
        for kind in fields() + [Truths()]:
            desk = Desk(kind, "ab")
            for first, second in said_alike(kind):
                self.assertEqual(desk.say("say x " + written_saying(kind, first)), "ok")
                self.assertEqual(desk.say("say y " + written_saying(kind, second)), "ok")
                same(self, desk.say("alike x y"), "yes")
                self.assertEqual(desk.say("least x x"), "ok")
                self.assertEqual(desk.say("least y y"), "ok")
                same(self, desk.say("show x"), desk.say("show y"))

    def test_those_that_say_the_same_over_any_kind(self):
        for kind in kinds():
            for first, second in said_alike(kind):
                one = built(kind, "ab", first)
                other = built(kind, "ab", second)
                same(self, weighed(kind, one, 4), weighed(kind, other, 4))
                if isinstance(kind, Costs):
                    same(self, cheapest(one)[:2] if cheapest(one)[0] == "least" else cheapest(one)[0], (
                        cheapest(other)[:2] if cheapest(other)[0] == "least" else cheapest(other)[0]
                    ))

    def test_alike_just_when_the_least_machines_are_equal(self):
        for kind in fields() + [Truths()]:
            machines = [built(kind, "ab", saying) for saying in sayings(kind, "ab", 16, 2)]
            machines = machines + [built(kind, "ab", first) for first, second in said_alike(kind)[:6]]
            found = {"yes": 0, "no": 0}
            for one in machines:
                for other in machines:
                    told = sure_alike(one, other) if isinstance(kind, Truths) else alike(kind, one, other)
                    found[told[0]] = found[told[0]] + 1
                    self.assertEqual(told[0] == "yes", least_of(kind, one) == least_of(kind, other))
                    left = weighed(kind, one, 5)
                    right = weighed(kind, other, 5)
                    unlike = [word for word in left if left[word] != right[word]]
                    same(self, told[1] if told[0] == "no" else None, unlike[0] if unlike else None)
            self.assertGreater(min(found.values()), len(machines), found)

    def test_the_paper_can_be_walked(self):
        for kind in fields():
            for first, second in said_alike(kind):
                one = built(kind, "ab", first)
                other = built(kind, "ab", second)
                told, (rows, start, steps) = alike(kind, one, other)
                self.assertEqual(told, "yes")
                size = rooms(one)
                width = size + rooms(other)
                self.assertLessEqual(len(rows), width)
                same(self, put_together(kind, start, rows, width), one[1] + other[1])
                for place in range(2):
                    for row, weights in zip(rows, steps[place], strict=True):
                        gone = ()
                        if size:
                            gone = row_put(kind, row[:size], one[2][place])
                        if rooms(other):
                            gone = gone + row_put(kind, row[size:], other[2][place])
                        same(self, put_together(kind, weights, rows, width), gone)
                for row in rows:
                    ends = [put_together(kind, part, [(x,) for x in by], 1) for part, by in (
                        (row[:size], one[3]), (row[size:], other[3])
                    )]
                    same(self, ends[0], ends[1])


class Costly(unittest.TestCase):
    def test_the_cheapest_word_of_a_saying(self):
        kind = Costs()
        found = {"none": 0, "falls": 0, "least": 0}
        drawn = sayings(kind, "ab", 60, 4)
        stars = [("star", ("times", -4, one)) for one in drawn if closable(kind, ("star", one))]
        for saying in drawn + stars:
            try:
                machine = built(kind, "ab", saying)
            except TooGreat:
                continue
            told = cheapest(machine)
            found[told[0]] = found[told[0]] + 1
            if told[0] == "least":
                same(self, said_weight(kind, saying, told[2]), told[1])
                for x in weighed(kind, machine, 4).values():
                    self.assertTrue(x is None or x >= told[1])
            if told[0] == "none":
                self.assertEqual(set(weighed(kind, machine, 4).values()), {None})
            if told[0] == "falls":
                costs = []
                for count in range(3):
                    word = told[1][0] + told[2][0] * count + told[3][0]
                    way = told[1][1] + told[2][1][1:] * count + told[3][1][1:]
                    costs.append(walked_way(kind, machine, word, way))
                    self.assertLessEqual(said_weight(kind, saying, word), costs[-1])
                self.assertTrue(costs[0] > costs[1] > costs[2], costs)
        for name in found:
            self.assertGreater(found[name], 2, found)

    def test_kinds_that_pick_weigh_by_the_best_cut(self):
        for kind in picking():
            x = other_than_nought(kind)[0]
            saying = ("star", ("sum", ("times", x, ("word", "a")), ("word", "aa")))
            machine = built(kind, "a", saying)
            for word in ("", "a", "aa", "aaaaa"):
                same(self, weight(kind, machine, word), said_weight(kind, saying, word))
