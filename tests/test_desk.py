import unittest

from reckoned import (
    NO_TEXTS, NeverCompared, all_words, closable, cuts, drawn, drawn_saying, fields, filled, kinds, nought, numbers,
    one, other_than_nought, product, said, same, some_weights, thinned, total, weighed, without_rooms, written,
    written_machine, written_saying,
)
from weighwalk.cheap import cheapest
from weighwalk.desk import Desk
from weighwalk.errors import NoClosure, NoName, NoRow, NoText, TooGreat, WrongKind
from weighwalk.kinds import Costs, Fractions, Residues, Truths
from weighwalk.least import least
from weighwalk.sure import least_sure
from weighwalk.texts import read_machine

BAD_NAMES = (
    "abcdefghi", "A", "aB", "Abc", "a1", "1", "-", "_", "a_b", "a-b", "a.b", "\u00e4", "a\n", "\na", "a\t", "|",
)
# How many words each row has; the last one of say and read may hold blanks.
ROWS = {
    "say": ("say", "new", "SAYING"), "read": ("read", "new", "MACHINE"), "scale": ("scale", "new", "x", "WEIGHT"),
    "add": ("add", "new", "x", "y"), "join": ("join", "new", "x", "y"), "cross": ("cross", "new", "x", "y"),
    "turn": ("turn", "new", "x"), "close": ("close", "new", "x"), "least": ("least", "new", "x"),
    "rooms": ("rooms", "x"), "show": ("show", "x"), "weigh": ("weigh", "x", "WORD"), "alike": ("alike", "x", "y"),
    "cheapest": ("cheapest", "x"),
}


def weighed_at(desk, name, most):
    return {word: desk.say("weigh " + name + " " + (word or "-")) for word in all_words(desk.letters, most)}


def told_weights(kind, weights):
    return {word: written(kind, x) for word, x in weights.items()}


def good_row(kind, form):
    return [{
        "SAYING": "sum word a nil", "MACHINE": "ab | - | - | - | -", "WEIGHT": written(kind, one(kind)), "WORD": "ab",
    }.get(word, word) for word in ROWS[form]]


def furnished(kind):
    desk = Desk(kind, "ab")
    desk.say("say x word a")
    desk.say("say y sum word a word b")
    desk.say("say empty word -")
    desk.say("say full word " + "ab" * 9 + "a")
    desk.say("say fullstar sum word - word " + "ab" * 9)
    desk.say("say none nil")
    return desk


def state(desk, names):
    told = {}
    for name in names:
        try:
            told[name] = desk.say("show " + name)
        except NoName:
            told[name] = None
    return told


NAMES = ("x", "y", "empty", "full", "fullstar", "none", "new", "abcdefgh", "z")


class DeskTest(unittest.TestCase):
    def refused(self, desk, row, refusal):
        before = state(desk, NAMES)
        with self.assertRaises(refusal, msg=repr(row)):
            desk.say(row)
        same(self, state(desk, NAMES), before)

    def ok(self, desk, row):
        same(self, desk.say(row), "ok")


class Keeping(DeskTest):
    def test_say(self):
        for kind in kinds():
            source = numbers(4)
            for letters in ("ab", "ba", "c"):
                desk = Desk(kind, letters)
                for count in range(20):
                    saying = drawn_saying(kind, letters, source, 3)
                    row = "say x " + written_saying(kind, saying)
                    if closable(kind, saying):
                        self.ok(desk, row)
                        expected = {word: said(kind, saying, word) for word in all_words(letters, 3)}
                        same(self, weighed_at(desk, "x", 3), told_weights(kind, expected))
                    else:
                        with self.assertRaises(NoClosure):
                            desk.say(row)

    def test_rooms(self):
        for kind in kinds():
            desk = furnished(kind)
            for name, size in (("x", 2), ("y", 4), ("empty", 1), ("full", 20), ("fullstar", 20), ("none", 0)):
                same(self, desk.say("rooms " + name), str(size))

    def test_read_and_show(self):
        for kind in kinds():
            for letters in ("a", "ba", "cab"):
                desk = Desk(kind, letters)
                for machine in (without_rooms(letters), drawn(kind, letters, 1), drawn(kind, letters, 3), drawn(
                    kind, letters, 20, 7
                ), thinned(kind, letters, 4, 2)):
                    text = written_machine(kind, machine)
                    self.ok(desk, "read m " + text)
                    same(self, desk.say("show m"), text)
                    same(self, desk.say("rooms m"), str(len(machine[1])))
                    if len(machine[1]) < 5:
                        same(self, weighed_at(desk, "m", 2), told_weights(kind, weighed(kind, machine, 2)))

    def test_built_ones(self):
        for kind in kinds():
            for letters in ("ab", "ba"):
                first = thinned(kind, letters, 3, 4)
                second = drawn(kind, letters, 2, 6)
                left = weighed(kind, first, 3)
                right = weighed(kind, second, 3)
                x = other_than_nought(kind)[-1]
                split = {w: [(w[:place], w[place:]) for place in range(len(w) + 1)] for w in left}
                desk = Desk(kind, letters)
                self.ok(desk, "read one " + written_machine(kind, first))
                self.ok(desk, "read other " + written_machine(kind, second))
                for row, size, expected in (
                    ("scale new one " + written(kind, x), 3, {w: product(kind, [x, left[w]]) for w in left}),
                    ("add new one other", 5, {w: total(kind, [left[w], right[w]]) for w in left}),
                    ("join new one other", 5, {
                        w: total(kind, [product(kind, [left[u], right[v]]) for u, v in split[w]]) for w in left
                    }),
                    ("join new other one", 5, {
                        w: total(kind, [product(kind, [right[u], left[v]]) for u, v in split[w]]) for w in left
                    }),
                    ("cross new one other", 6, {w: product(kind, [left[w], right[w]]) for w in left}),
                    ("turn new one", 3, {w: left[w[::-1]] for w in left}),
                ):
                    self.ok(desk, row)
                    same(self, desk.say("rooms new"), str(size))
                    same(self, weighed_at(desk, "new", 3), told_weights(kind, expected))
                    same(self, desk.say("show one"), written_machine(kind, first))
                    same(self, desk.say("show other"), written_machine(kind, second))

    def test_close(self):
        for kind in kinds():
            desk = Desk(kind, "ab")
            x = other_than_nought(kind)[-1]
            self.ok(desk, "say one sum times " + written(kind, x) + " word a word ab")
            self.ok(desk, "close new one")
            weights = {"a": x, "ab": one(kind)}
            expected = {}
            for word in all_words("ab", 4):
                pieces = cuts(word) if word else [[]]
                expected[word] = total(kind, [
                    product(kind, [weights.get(piece, nought(kind)) for piece in cut]) for cut in pieces
                ])
            same(self, desk.say("rooms new"), "6")
            same(self, weighed_at(desk, "new", 4), told_weights(kind, expected))

    def test_least(self):
        for kind in fields():
            desk = Desk(kind, "ab")
            for machine in (drawn(kind, "ab", 3, 4), thinned(kind, "ab", 4, 2), without_rooms("ab")):
                self.ok(desk, "read one " + written_machine(kind, machine))
                self.ok(desk, "least new one")
                same(self, desk.say("show new"), written_machine(kind, least(kind, machine)))
                same(self, weighed_at(desk, "new", 3), told_weights(kind, weighed(kind, machine, 3)))
            self.ok(desk, "say one sum then word a sum word a word b word a")
            self.ok(desk, "least new one")
            same(self, desk.say("rooms new"), "3")
        kind = Truths()
        desk = Desk(kind, "ab")
        for machine in (drawn(kind, "ab", 3, 4), thinned(kind, "ab", 4, 2), without_rooms("ab")):
            self.ok(desk, "read one " + written_machine(kind, machine))
            self.ok(desk, "least new one")
            same(self, desk.say("show new"), written_machine(kind, least_sure(machine)))
            same(self, weighed_at(desk, "new", 3), told_weights(kind, weighed(kind, machine, 3)))
        self.ok(desk, "say one nil")
        self.ok(desk, "least new one")
        same(self, desk.say("show new"), "ab | yes | yes | yes | no")

    def test_a_name_kept_anew(self):
        for kind in kinds():
            desk = furnished(kind)
            self.ok(desk, "say x word bb")
            same(self, desk.say("rooms x"), "3")
            same(self, desk.say("weigh x a"), written(kind, nought(kind)))
            same(self, desk.say("weigh x bb"), written(kind, one(kind)))
            self.ok(desk, "read x ab | - | - | - | -")
            same(self, desk.say("rooms x"), "0")
            same(self, desk.say("rooms y"), "4")

    def test_the_new_name_is_one_of_the_old_ones(self):
        for kind in kinds():
            x = other_than_nought(kind)[-1]
            for row, size, words in (
                ("scale x x " + written(kind, x), 2, {"a": x}), ("add x x x", 4, {"a": total(kind, [one(kind)] * 2)}),
                ("join x x x", 4, {"aa": one(kind)}), ("cross x x x", 4, {"a": one(kind)}),
                ("turn x x", 2, {"a": one(kind)}),
                ("close x x", 3, {"": one(kind), "a": one(kind), "aa": one(kind)}),
                ("add x x y", 6, {"a": total(kind, [one(kind)] * 2), "b": one(kind)}),
                ("join x y x", 6, {"aa": one(kind), "ba": one(kind)}),
                ("join x x y", 6, {"aa": one(kind), "ab": one(kind)}),
            ):
                desk = furnished(kind)
                before = desk.say("show y")
                self.ok(desk, row)
                expected = {word: words.get(word, nought(kind)) for word in all_words("ab", 2)}
                same(self, desk.say("rooms x"), str(size))
                same(self, weighed_at(desk, "x", 2), told_weights(kind, expected))
                same(self, desk.say("show y"), before)
            if not isinstance(kind, Costs):
                desk = furnished(kind)
                self.ok(desk, "least y y")
                same(self, desk.say("rooms y"), "3" if isinstance(kind, Truths) else "2")
                same(self, desk.say("alike y y"), "yes")
                same(self, desk.say("weigh y b"), written(kind, one(kind)))

    def test_what_was_built_of_a_name_stays_when_it_is_kept_anew(self):
        for kind in kinds():
            desk = furnished(kind)
            self.ok(desk, "add z x y")
            before = desk.say("show z")
            self.ok(desk, "say x nil")
            self.ok(desk, "say y nil")
            same(self, desk.say("show z"), before)

    def test_names_of_one_letter_and_of_eight(self):
        for kind in kinds():
            desk = Desk(kind, "ab")
            for name in ("a", "z", "ab", "abcdefgh", "zzzzzzzz", "say", "rooms", "nil", "word", "cheapest"):
                self.ok(desk, "say " + name + " word ab")
                same(self, desk.say("rooms " + name), "3")

    def test_two_desks(self):
        for kind in kinds():
            desk = Desk(kind, "ab")
            other = Desk(kind, "ab")
            self.ok(desk, "say x word ab")
            with self.assertRaises(NoName):
                other.say("rooms x")
            self.ok(other, "say x word a")
            self.ok(desk, "say y nil")
            same(self, desk.say("rooms x"), "3")
            same(self, other.say("rooms x"), "2")
            with self.assertRaises(NoName):
                other.say("rooms y")
        desk = Desk(Truths(), "ba")
        other = Desk(Costs(), "ab")
        self.ok(desk, "say x times yes word b")
        self.ok(other, "say x times 3 word b")
        same(self, (desk.say("weigh x b"), other.say("weigh x b")), ("yes", "3"))
        same(self, desk.say("show x"), "ba | yes no | no yes, no no | no no, no no | no yes")


class Model:
    # What the words of up to so many letters weigh, reckoned without machines.
    def __init__(self, kind, letters, most):
        self.kind = kind
        self.words = all_words(letters, most)
        self.kept = {}

    def split(self, first, second, word):
        pairs = [(first[word[:place]], second[word[place:]]) for place in range(len(word) + 1)]
        return total(self.kind, [product(self.kind, pair) for pair in pairs])

    def around(self, first, word):
        if word == "":
            return one(self.kind)
        return total(self.kind, [product(self.kind, [first[piece] for piece in cut]) for cut in cuts(word)])

    def build(self, form, new, names, x):
        first = self.kept[names[0]]
        second = self.kept[names[-1]]
        kind = self.kind
        self.kept[new] = {
            "scale": lambda: {w: product(kind, [x, first[w]]) for w in self.words},
            "add": lambda: {w: total(kind, [first[w], second[w]]) for w in self.words},
            "join": lambda: {w: self.split(first, second, w) for w in self.words},
            "cross": lambda: {w: product(kind, [first[w], second[w]]) for w in self.words},
            "turn": lambda: {w: first[w[::-1]] for w in self.words},
            "close": lambda: {w: self.around(first, w) for w in self.words},
            "least": lambda: first,
        }[form]()


class LongTalks(DeskTest):
    # Rows drawn one behind the other, at a desk and at a model of it.
    def setUp(self):
        self.kind = None
        self.met = {}

    def talk(self, kind, letters, seed, count):
        source = numbers(seed)
        self.kind = kind
        self.desk = Desk(kind, letters)
        self.model = Model(kind, letters, 3)
        self.size = {}
        names = ("a", "bb", "ccc", "abcdefgh")
        for name in names:
            self.say(name, drawn_saying(kind, letters, source, 2))
        for time in range(count):
            form = ("say", "scale", "add", "join", "cross", "turn", "close", "least", "alike")[next(source) % 9]
            new, first, second = [names[next(source) % 4] for _ in range(3)]
            if form == "say":
                self.say(new, drawn_saying(kind, letters, source, 3))
            elif form == "alike":
                self.alike(first, second)
            else:
                choice = some_weights(kind)
                self.build(form, new, first, second, choice[next(source) % len(choice)])
            for name in self.model.kept:
                same(self, weighed_at(self.desk, name, 3), told_weights(kind, self.model.kept[name]))
                same(self, self.desk.say("rooms " + name), str(self.size[name]))

    def tried(self, row):
        try:
            told = self.desk.say(row)
        except (NoName, NoClosure, TooGreat, WrongKind) as refusal:
            told = refusal.__class__
        key = (row.split(" ")[0], told if isinstance(told, type) else "told")
        self.met[key] = self.met.get(key, 0) + 1
        return told

    def say(self, name, saying):
        told = self.tried("say " + name + " " + written_saying(self.kind, saying))
        if closable(self.kind, saying):
            self.assertEqual(told, "ok")
            self.model.kept[name] = {word: said(self.kind, saying, word) for word in self.model.words}
            self.size[name] = int(self.desk.say("rooms " + name))
        else:
            self.assertIs(told, NoClosure)

    def alike(self, first, second):
        told = self.tried("alike " + first + " " + second)
        if first not in self.model.kept or second not in self.model.kept:
            self.assertIs(told, NoName)
        elif isinstance(self.kind, Costs):
            self.assertIs(told, WrongKind)
        else:
            left = self.model.kept[first]
            right = self.model.kept[second]
            unlike = [word for word in self.model.words if left[word] != right[word]]
            if unlike:
                self.assertEqual(told, "no " + (unlike[0] or "-"))
            elif told is not TooGreat and told != "yes":
                self.assertGreater(len(told), len("no ") + 3)

    def expected(self, form, names):
        sizes = [self.size[name] for name in names]
        if form == "close" and self.model.kept[names[0]][""] != nought(self.kind):
            return NoClosure
        if form == "least":
            return WrongKind if isinstance(self.kind, Costs) else None
        size = {
            "scale": sizes[0], "turn": sizes[0], "close": sizes[0] + 1, "add": sizes[0] + sizes[-1],
            "join": sizes[0] + sizes[-1], "cross": sizes[0] * sizes[-1],
        }[form]
        return size if size <= 20 else TooGreat

    def build(self, form, new, first, second, x):
        names = [first, second] if form in ("add", "join", "cross") else [first]
        row = " ".join([form, new] + names + ([written(self.kind, x)] if form == "scale" else []))
        told = self.tried(row)
        if [name for name in names if name not in self.model.kept]:
            self.assertIs(told, NoName)
            return
        expected = self.expected(form, names)
        if expected is None:
            self.assertTrue(told == "ok" or told is TooGreat and isinstance(self.kind, Truths))
            expected = int(self.desk.say("rooms " + new)) if told == "ok" else told
        if isinstance(expected, int):
            self.assertEqual(told, "ok")
            self.model.build(form, new, names, x)
            self.size[new] = expected
        else:
            self.assertIs(told, expected)

    def test_talks(self):
        for kind in kinds():
            for letters in ("ab", "ba", "c"):
                for seed in range(3):
                    self.talk(kind, letters, 10 * seed + len(letters), 25)
        for form in ("say", "scale", "add", "join", "cross", "turn", "close", "least", "alike"):
            self.assertGreater(self.met[(form, "told")], 3, self.met)
        for key in (("close", NoClosure), ("say", NoClosure), ("add", TooGreat), ("least", WrongKind)):
            self.assertGreater(self.met.get(key, 0), 0, self.met)


class Answers(DeskTest):
    def test_weigh(self):
        for kind in kinds():
            desk = furnished(kind)
            for name, words in (("x", ["a"]), ("y", ["a", "b"]), ("empty", [""]), ("none", [])):
                for word in all_words("ab", 2):
                    told = desk.say("weigh " + name + " " + (word or "-"))
                    same(self, told, written(kind, one(kind) if word in words else nought(kind)))
            same(self, desk.say("weigh full " + "ab" * 9 + "a"), written(kind, one(kind)))

    def test_weights_as_written(self):
        desk = Desk(Fractions(), "a")
        desk.say("say x star times -2/3 word a")
        same(self, [desk.say("weigh x " + word) for word in ("-", "a", "aa")], ["1", "-2/3", "4/9"])
        desk = Desk(Residues(5), "a")
        desk.say("say x star times 3 word a")
        same(self, [desk.say("weigh x " + word) for word in ("-", "a", "aa")], ["1", "3", "4"])
        desk = Desk(Costs(), "ab")
        desk.say("say x star times -3 word a")
        same(self, [desk.say("weigh x " + word) for word in ("-", "a", "aa", "b")], ["0", "-3", "-6", "none"])
        desk = Desk(Truths(), "ab")
        desk.say("say x star word a")
        same(self, [desk.say("weigh x " + word) for word in ("-", "a", "b")], ["yes", "yes", "no"])

    def test_alike(self):
        for kind in fields() + [Truths()]:
            desk = furnished(kind)
            desk.say("say one star sum word a word b")
            desk.say("say two star sum word b word a")
            desk.say("say three sum star sum word a word b word bab")
            desk.say("say four sum word - then word a star word a")
            desk.say("say five star word a")
            desk.say("say long word " + "ab" * 9)
            for row, told in (
                ("alike one two", "yes"), ("alike one one", "yes"), ("alike x y", "no b"), ("alike y x", "no b"),
                ("alike x empty", "no -"), ("alike none empty", "no -"), ("alike none none", "yes"),
                ("alike four five", "yes"), ("alike one five", "no b"), ("alike none x", "no a"),
                ("alike x long", "no a"), ("alike none long", "no " + "ab" * 9),
                ("alike one three", "yes" if isinstance(kind, Truths) else "no bab"),
            ):
                same(self, desk.say(row), told)

    def test_alike_goes_by_the_order_of_the_letters(self):
        for kind in fields() + [Truths()]:
            for letters, told in (("ab", "no a"), ("ba", "no b")):
                desk = Desk(kind, letters)
                desk.say("say x sum word a word b")
                desk.say("say y nil")
                same(self, desk.say("alike x y"), told)

    def test_cheapest(self):
        desk = Desk(Costs(), "ab")
        for saying, told in (
            ("nil", "none"), ("times none word a", "none"), ("word -", "0"), ("times 7 word a", "7"),
            ("sum times 7 word a times -2 word b", "-2"), ("star times 3 word ab", "0"), ("star times 0 word a", "0"),
            ("star times -1 word ab", "falls"), ("then times 9 word a star times -1 word b", "falls"),
            ("both star times -1 word a word aaa", "-3"), ("then star times -1 word a nil", "none"),
        ):
            self.ok(desk, "say x " + saying)
            same(self, desk.say("cheapest x"), told)
        for seed in range(40):
            machine = thinned(Costs(), "ab", 1 + seed % 5, seed)
            self.ok(desk, "read x " + written_machine(Costs(), machine))
            told = cheapest(machine)
            same(self, desk.say("cheapest x"), written(Costs(), told[1]) if told[0] == "least" else told[0])

    def test_asking_changes_nothing(self):
        for kind in kinds():
            desk = furnished(kind)
            before = state(desk, NAMES)
            for row in ("rooms x", "show x", "weigh x a"):
                same(self, desk.say(row), desk.say(row))
            for row in ("alike x y", "cheapest x"):
                try:
                    same(self, desk.say(row), desk.say(row))
                except WrongKind:
                    pass
            same(self, state(desk, NAMES), before)

    def test_what_is_shown_may_be_read(self):
        for kind in kinds():
            desk = furnished(kind)
            for name in ("x", "y", "empty", "full", "none"):
                text = desk.say("show " + name)
                self.ok(desk, "read z " + text)
                same(self, desk.say("show z"), text)
                same(self, written_machine(kind, read_machine(kind, text)), text)


class NoRows(DeskTest):
    def test_each_row_is_taken(self):
        for kind in kinds():
            for form in ROWS:
                desk = furnished(kind)
                try:
                    self.assertIsInstance(desk.say(" ".join(good_row(kind, form))), str)
                except WrongKind:
                    self.assertIn((form, isinstance(kind, Costs)), (
                        ("least", True), ("alike", True), ("cheapest", False)
                    ))

    def test_words_too_few_or_too_many(self):
        for kind in kinds():
            desk = furnished(kind)
            for form in ROWS:
                words = good_row(kind, form)
                for count in range(1, len(words)):
                    self.refused(desk, " ".join(words[:count]), NoRow)
                if form not in ("say", "read"):
                    for more in ("x", "nope", "", " ", "1", "-"):
                        self.refused(desk, " ".join(words + [more]), NoRow)
                    self.refused(desk, " ".join(words[:1] + [""] + words[1:]), NoRow)
                self.refused(desk, " " + " ".join(words), NoRow)

    def test_first_words_that_are_none(self):
        for kind in kinds():
            desk = furnished(kind)
            for form in ROWS:
                great = form[0].upper() + form[1:]
                for first in (form.upper(), great, form + "s", form[:-1], form + "\n", "\t" + form, ""):
                    self.refused(desk, " ".join([first] + good_row(kind, form)[1:]), NoRow)
                self.refused(desk, "\t".join(good_row(kind, form)), NoRow)
            for row in (
                "", " ", "  ", "\n", "x", "x y", "nil", "word a", "keep x nil", "learn x y", "sum x y", "say\nx nil",
            ):
                self.refused(desk, row, NoRow)

    def test_what_is_no_text(self):
        for kind in kinds():
            desk = furnished(kind)
            for thing in NO_TEXTS + (["rooms", "x"], ("rooms", "x"), b"rooms x", NeverCompared()):
                self.refused(desk, thing, NoRow)

    def test_ahead_of_no_name(self):
        for kind in kinds():
            desk = furnished(kind)
            for row in (
                "rooms nope x", "rooms A x", "show nope ", "say A", "say", "read A", "weigh nope", "weigh nope a b",
                "alike nope", "alike nope nope x", "add A nope", "add A nope nope nope", "turn A", "turn A nope x",
                "scale A nope", "scale A nope 1 1", "least A nope nope", "cheapest nope x", "cheapest", "nope nope",
            ):
                self.refused(desk, row, NoRow)

    def test_ahead_of_no_text_and_others(self):
        for kind in kinds():
            desk = furnished(kind)
            for row in (
                "weigh x c d", "weigh x ? ", "scale new x ?? ??", "scale new x", "say new", "read new",
                "close new empty x", "add new full full x", "least new x x", "alike x y y", "cheapest x x",
                "close new empty ",
            ):
                self.refused(desk, row, NoRow)


class NoNames(DeskTest):
    def test_names_that_are_none(self):
        for kind in kinds():
            desk = furnished(kind)
            for form in ROWS:
                words = good_row(kind, form)
                for place in range(1, len(words)):
                    if words[place] in ("new", "x", "y"):
                        for name in BAD_NAMES + ("",):
                            self.refused(desk, " ".join(words[:place] + [name] + words[place + 1:]), NoName)

    def test_names_by_which_nothing_is_kept(self):
        for kind in kinds():
            desk = furnished(kind)
            for form in ROWS:
                words = good_row(kind, form)
                for place in range(1, len(words)):
                    if words[place] in ("x", "y"):
                        for name in ("z", "new", "abcdefgh", "xx", "ful"):
                            self.refused(desk, " ".join(words[:place] + [name] + words[place + 1:]), NoName)

    def test_what_was_refused_is_not_kept(self):
        for kind in kinds():
            desk = Desk(kind, "ab")
            for row, refusal in (
                ("say x blah", NoText), ("say x star word -", NoClosure), ("say x word " + "a" * 20, TooGreat),
                ("read x ba | - | - | - | -", NoText), ("add x y y", NoName), ("turn x x", NoName),
            ):
                self.refused(desk, row, refusal)
                for form in ("rooms", "show", "cheapest"):
                    self.refused(desk, form + " x", NoName)

    def test_ahead_of_no_text(self):
        for kind in kinds():
            desk = furnished(kind)
            for row in (
                "say A blah", "say  nil", "say  x nil", "say abcdefghi word c", "read A blah", "read  ab", "read A1 -",
                "weigh nope c", "weigh A ?", "weigh  ?", "weigh nope ", "scale A x ?", "scale new nope ?", "scale  x ?",
                "scale A nope ", "read A ba | - | - | - | -",
            ):
                self.refused(desk, row, NoName)

    def test_ahead_of_no_closure_and_too_great(self):
        for kind in kinds():
            desk = furnished(kind)
            for row in (
                "close A empty", "close abcdefghi fullstar", "say A star word -", "say A1 word " + "a" * 20,
                "close A full", "add A full full", "join A full full", "cross A full full", "add new full nope",
                "cross new nope full",
            ):
                self.refused(desk, row, NoName)

    def test_ahead_of_wrong_kind(self):
        for kind in kinds():
            desk = furnished(kind)
            for row in (
                "least A x", "least new nope", "alike x nope", "alike nope x", "alike A A", "cheapest nope",
                "cheapest A",
            ):
                self.refused(desk, row, NoName)


class NoTexts(DeskTest):
    def test_words(self):
        for kind in kinds():
            desk = furnished(kind)
            for word in ("", "--", "-a", "a-", "c", "abc", "A", "aB", "1", "a\n", "\u00e4", "a,b", "nil", "a\tb"):
                self.refused(desk, "weigh x " + word, NoText)
            same(self, desk.say("weigh empty -"), written(kind, one(kind)))

    def test_weights(self):
        for kind, weights in (
            (Fractions(), ("", "2/4", "1/1", "01", "-0", "1/", "none", "yes", "x", "1/2x", "1" + "0" * 30)),
            (Residues(7), ("", "7", "-1", "01", "1/2", "x")), (Costs(), ("", "None", "1/2", "yes", "-", "9" * 31)),
            (Truths(), ("", "True", "1", "Yes", "no\n")),
        ):
            desk = furnished(kind)
            for x in weights:
                self.refused(desk, "scale new x " + x, NoText)
                self.refused(desk, "scale x x " + x, NoText)

    def test_sayings(self):
        for kind in kinds():
            desk = furnished(kind)
            for text in (
                "", " ", " nil", "nil ", "  nil", "sum  nil nil", "sum nil", "nil nil", "word c", "word", "word ", "x",
                "nil\n", "Nil", "times nil", "star " * 12 + "nil", "ab | - | - | - | -",
                "sum " * 20 + "nil " * 20 + "nil",
            ):
                self.refused(desk, "say new " + text, NoText)
                self.refused(desk, "say x " + text, NoText)
            self.ok(desk, "say new " + "back " * 11 + "nil")

    def test_machines(self):
        for kind in kinds():
            desk = furnished(kind)
            twenty = written_machine(kind, drawn(kind, "ab", 20))
            more = written_machine(kind, drawn(kind, "ab", 21))
            for text in (
                "", " ", "x", "nil", " ab | - | - | - | -", "ab | - | - | - | - ", "ab | - | - | -",
                "ab | - | - | - | - | -",
                "ab  | - | - | - | -", "ab | - | - | - | -\n", "AB | - | - | - | -", more, twenty + " ", " " + twenty,
            ):
                self.refused(desk, "read new " + text, NoText)
                self.refused(desk, "read x " + text, NoText)
            self.ok(desk, "read new " + twenty)

    def test_a_machine_with_other_letters(self):
        for kind in kinds():
            for letters in ("a", "b", "ba", "ac", "abc", "bac", "xy"):
                for size in (0, 2):
                    desk = furnished(kind)
                    text = written_machine(kind, drawn(kind, letters, size))
                    self.refused(desk, "read new " + text, NoText)
                    self.refused(desk, "read x " + text, NoText)
                    self.ok(Desk(kind, letters), "read new " + text)

    def test_ahead_of_no_closure_and_too_great(self):
        for kind in kinds():
            desk = furnished(kind)
            great = "word " + "a" * 20
            for text in (
                "sum star word - blah", "star word - nil", "sum star word - word c", "sum " + great + " word c",
                "sum " + great + " " + great + " nil", great + " ", "times ? " + great, "times ? star word -",
                "star " * 12 + "word -", "star star word - ",
            ):
                self.refused(desk, "say new " + text, NoText)


class Others(DeskTest):
    def test_no_closure(self):
        for kind in kinds():
            desk = furnished(kind)
            x = written(kind, other_than_nought(kind)[-1])
            for row in (
                "close new empty", "close empty empty", "close new fullstar", "say new star word -",
                "say x star times " + x + " word -", "say new sum word a times " + x + " star star word a",
            ):
                self.refused(desk, row, NoClosure)

    def test_too_great(self):
        for kind in kinds():
            desk = furnished(kind)
            for row in (
                "add new full empty", "add full full empty", "join new empty full", "cross new full x",
                "cross x x full", "add new full full", "close new full", "close full full", "say new word " + "a" * 20,
                "say x sum word - word " + "b" * 19,
            ):
                self.refused(desk, row, TooGreat)
            for row in ("add new full none", "join new none full", "cross new full empty", "cross new none full"):
                self.ok(desk, row)
            self.ok(desk, "turn new full")
            self.ok(desk, "scale new full " + written(kind, nought(kind)))

    def test_which_comes_first_of_no_closure_and_too_great(self):
        for kind in kinds():
            desk = furnished(kind)
            great = "word " + "a" * 20
            for row, refusal in (
                ("close new fullstar", NoClosure), ("close new full", TooGreat),
                ("say new sum star word - " + great, NoClosure), ("say new sum " + great + " star word -", TooGreat),
            ):
                self.refused(desk, row, refusal)

    def test_wrong_kind(self):
        desk = furnished(Costs())
        for row in ("least new x", "least x x", "least new none", "alike x x", "alike x y", "alike none none"):
            self.refused(desk, row, WrongKind)
        for kind in fields() + [Truths()]:
            desk = furnished(kind)
            for name in ("x", "y", "none", "full"):
                self.refused(desk, "cheapest " + name, WrongKind)

    def test_more_than_twenty_sets(self):
        desk = Desk(Truths(), "a")
        for name, sizes in (("few", (4, 5)), ("many", (3, 7))):
            size = sum(sizes)
            pairs = [(q, (q + 1) % sizes[0]) for q in range(sizes[0])]
            pairs = pairs + [(sizes[0] + q, sizes[0] + (q + 1) % sizes[1]) for q in range(sizes[1])]
            table = tuple([tuple([(q, r) in pairs for r in range(size)]) for q in range(size)])
            row = tuple([q in (0, sizes[0]) for q in range(size)])
            self.ok(desk, "read " + name + " " + written_machine(Truths(), ("a", row, (table,), row)))
        self.ok(desk, "say x word a")
        self.ok(desk, "least new few")
        same(self, desk.say("rooms new"), "20")
        same(self, desk.say("alike new few"), "yes")
        same(self, desk.say("alike few x"), "no -")
        for row in ("least new many", "least many many", "alike many x", "alike x many", "alike many many"):
            self.refused(desk, row, TooGreat)
        same(self, desk.say("rooms new"), "20")
        same(self, desk.say("rooms many"), "10")

    def test_many_rooms_but_few_sets(self):
        desk = Desk(Truths(), "ab")
        self.ok(desk, "read x " + written_machine(Truths(), filled(Truths(), "ab", 20, True)))
        self.ok(desk, "least x x")
        same(self, desk.say("show x"), "ab | yes | yes | yes | yes")
