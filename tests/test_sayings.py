import unittest

from reckoned import (
    NO_TEXTS, NeverCompared, all_words, changed_texts, closable, drawn_saying, height, kinds, nought, numbers, one,
    other_than_nought, parts_of, product, said, same, some_weights, total, walked, weighed, written_saying,
)
from weighwalk.errors import NoClosure, NoText, NoWord, TooGreat
from weighwalk.kinds import Costs, Fractions, Residues, Truths
from weighwalk.machines import is_machine, rooms, weight
from weighwalk.sayings import built, read_saying, said_weight, shown_saying

NIL = ("nil",)
EMPTY = ("word", "")
A = ("word", "a")
B = ("word", "b")
AB = ("word", "ab")


def word_of(length):
    return ("word", "ab" * (length // 2) + "a" * (length % 2))


def some_sayings(kind, letters="ab", count=60, high=4):
    source = numbers(len(letters) + high)
    return [drawn_saying(kind, letters, source, high) for _ in range(count)]


def closable_ones(kind, letters="ab", count=60, high=4):
    return [saying for saying in some_sayings(kind, letters, count, high) if closable(kind, saying)]


def by_hand(kind):
    x = other_than_nought(kind)[-1]
    y = other_than_nought(kind)[0]
    both = ("sum", A, ("times", x, B))
    return [
        NIL, EMPTY, A, AB, ("times", x, AB), ("times", nought(kind), AB), ("times", one(kind), EMPTY),
        ("sum", A, B), ("sum", A, A), ("sum", NIL, A), ("sum", A, NIL), ("sum", EMPTY, EMPTY),
        ("then", A, B), ("then", B, A), ("then", EMPTY, A), ("then", A, EMPTY), ("then", NIL, A), ("then", A, NIL),
        ("then", ("sum", EMPTY, A), ("sum", A, ("times", x, ("word", "aa")))), ("then", EMPTY, EMPTY),
        ("both", A, A), ("both", A, B), ("both", ("times", x, A), ("times", y, A)), ("both", NIL, A), ("both", A, NIL),
        ("both", ("star", both), ("star", ("times", y, A))), ("both", ("star", A), ("sum", A, AB)),
        ("back", AB), ("back", EMPTY), ("back", NIL), ("back", ("then", ("star", A), AB)), ("back", ("back", AB)),
        ("star", NIL), ("star", A), ("star", AB), ("star", both), ("star", ("times", nought(kind), EMPTY)),
        ("star", ("sum", A, ("word", "aa"))), ("star", ("then", ("star", A), B)), ("then", ("star", both), AB),
        ("star", ("sum", ("times", x, A), ("sum", ("times", y, AB), ("word", "aba")))),
        ("star", ("back", ("then", ("star", ("times", x, A)), AB))),
        ("times", x, ("star", ("times", y, ("sum", A, ("back", AB))))),
        ("sum", ("star", A), ("then", ("both", ("star", A), ("star", A)), ("back", ("times", x, AB)))),
    ]


# Stars of what lets the empty word weigh something, each within something else.
def refused_ones(kind):
    x = other_than_nought(kind)[-1]
    return [
        ("star", EMPTY), ("star", ("times", x, EMPTY)), ("star", ("sum", A, EMPTY)), ("star", ("sum", EMPTY, A)),
        ("star", ("star", A)), ("star", ("star", NIL)), ("star", ("then", ("star", A), ("star", B))),
        ("star", ("both", ("star", A), ("star", B))), ("star", ("back", EMPTY)), ("star", ("back", ("star", A))),
        ("times", nought(kind), ("star", EMPTY)), ("sum", A, ("star", EMPTY)), ("sum", ("star", EMPTY), A),
        ("then", NIL, ("star", EMPTY)), ("then", ("star", EMPTY), NIL), ("both", NIL, ("star", EMPTY)),
        ("both", ("star", EMPTY), NIL), ("back", ("star", EMPTY)), ("star", ("then", A, ("star", EMPTY))),
        ("star", ("times", nought(kind), ("star", EMPTY))), ("both", A, ("then", B, ("star", EMPTY))),
        ("times", nought(kind), ("both", NIL, ("sum", A, ("then", NIL, ("back", ("star", ("star", A))))))),
    ]


class Weighed(unittest.TestCase):
    def test_by_hand_against_cuts_and_pieces(self):
        for kind in kinds():
            for saying in by_hand(kind):
                for word in all_words("ab", 4):
                    same(self, said_weight(kind, saying, word), said(kind, saying, word))

    def test_drawn_ones_against_cuts_and_pieces(self):
        for kind in kinds():
            found = 0
            for letters, most in (("ab", 3), ("c", 5), ("bca", 2)):
                for saying in closable_ones(kind, letters):
                    weights = {word: said(kind, saying, word) for word in all_words(letters, most)}
                    found = found + len([x for x in weights.values() if x != nought(kind)])
                    for word, x in weights.items():
                        same(self, said_weight(kind, saying, word), x)
            self.assertGreater(found, 100)

    def test_every_form_is_drawn_within_every_other(self):
        pairs = set()
        for letters in ("ab", "c", "bca"):
            for saying in closable_ones(Fractions(), letters):
                for part in parts_of(saying):
                    pairs.update([(part[0], inner[0]) for inner in parts_of(part)[1:]])
        for form in ("times", "sum", "then", "both", "back", "star"):
            for inner in ("word", "times", "sum", "then", "both", "back", "star"):
                self.assertIn((form, inner), pairs)

    def test_letters_that_are_none_of_the_sayings(self):
        for kind in kinds():
            for saying in by_hand(kind):
                for word in ("z", "az", "za", "aza", "abz", "q" * 10, "abcdefghijklmnopqrstuvwxyz"):
                    same(self, said_weight(kind, saying, word), nought(kind))

    def test_words_of_any_small_letters(self):
        for kind in kinds():
            saying = ("star", ("sum", ("word", "xyz"), ("word", "q")))
            for word in ("", "xyz", "q", "qxyzq", "xyzxyz", "xy", "xyzz"):
                expected = one(kind) if word.replace("xyz", "").replace("q", "") == "" else nought(kind)
                same(self, said_weight(kind, saying, word), expected)

    def test_long_words(self):
        # By letters and pairs of letters: the weights of k letters come from those of one and two less.
        for kind in kinds():
            x = other_than_nought(kind)[-1]
            saying = ("star", ("sum", ("times", x, A), ("word", "aa")))
            expected = [one(kind), x]
            while len(expected) <= 40:
                expected.append(total(kind, [product(kind, [x, expected[-1]]), expected[-2]]))
            for length in (2, 7, 39, 40):
                same(self, said_weight(kind, saying, "a" * length), expected[length])
                same(self, said_weight(kind, ("back", saying), "a" * length), expected[length])
                same(self, said_weight(kind, ("then", saying, B), "a" * (length - 1) + "b"), expected[length - 1])

    def test_high_ones_and_those_of_many_parts(self):
        for kind in kinds():
            saying = A
            for _ in range(14):
                saying = ("then", ("star", A), saying)
            cut = said_weight(kind, saying, "a" * 3)
            self.assertEqual(height(saying), 16)
            same(self, cut, total(kind, [one(kind)] * 105))
            many = A
            for _ in range(25):
                many = ("sum", many, A)
            same(self, said_weight(kind, many, "a"), total(kind, [one(kind)] * 26))

    def test_what_is_no_word(self):
        for word in ("A", "a b", "-", "a\n", "\u00e4") + NO_TEXTS + (NeverCompared(),):
            with self.assertRaises(NoWord):
                said_weight(Fractions(), A, word)


class NoStar(unittest.TestCase):
    def test_wherever_it_stands(self):
        for kind in kinds():
            for saying in refused_ones(kind):
                self.assertFalse(closable(kind, saying))
                for word in ("", "a", "b", "ab", "z", "aab"):
                    with self.assertRaises(NoClosure):
                        said_weight(kind, saying, word)
                with self.assertRaises(NoClosure):
                    built(kind, "ab", saying)

    def test_drawn_ones(self):
        for kind in kinds():
            refused = [saying for saying in some_sayings(kind) if not closable(kind, saying)]
            self.assertGreater(len(refused), 5)
            for saying in refused:
                for word in ("", "ab", "z"):
                    with self.assertRaises(NoClosure):
                        said_weight(kind, saying, word)

    def test_where_the_empty_word_weighs_nought_after_all(self):
        for kind, minus in ((Fractions(), (-1, 1)), (Residues(7), 6)):
            saying = ("star", ("sum", EMPTY, ("sum", A, ("times", minus, EMPTY))))
            same(self, said_weight(kind, saying, "aaa"), one(kind))
            same(self, weight(kind, built(kind, "ab", saying), "aaa"), one(kind))
        same(self, said_weight(Residues(2), ("star", ("sum", EMPTY, ("sum", EMPTY, A))), "aa"), 1)
        for kind in (Costs(), Truths()):
            for x in other_than_nought(kind):
                with self.assertRaises(NoClosure):
                    said_weight(kind, ("star", ("times", x, EMPTY)), "")


def made(kind, saying):
    # So many rooms, or the first refusal met where the sayings within are made ahead.
    inner = [made(kind, part) for part in saying[1:] if isinstance(part, tuple) and isinstance(part[0], str)]
    for told in inner:
        if not isinstance(told, int):
            return told
    form = saying[0]
    if form == "star" and said(kind, saying[1], "") != nought(kind):
        return NoClosure
    size = {
        "nil": lambda: 0, "word": lambda: len(saying[1]) + 1, "times": lambda: inner[0], "back": lambda: inner[0],
        "star": lambda: inner[0] + 1, "sum": lambda: sum(inner), "then": lambda: sum(inner),
        "both": lambda: inner[0] * inner[-1],
    }[form]()
    return size if size <= 20 else TooGreat


class Built(unittest.TestCase):
    def check(self, kind, letters, saying, most):
        expected = made(kind, saying)
        if not isinstance(expected, int):
            with self.assertRaises(expected):
                built(kind, letters, saying)
            return expected
        machine = built(kind, letters, saying)
        self.assertIs(is_machine(kind, machine), True)
        self.assertEqual(machine[0], letters)
        self.assertEqual(rooms(machine), expected)
        same(self, built(kind, letters, saying), machine)
        for word, x in weighed(kind, machine, most).items():
            same(self, x, said_weight(kind, saying, word))
        return expected

    def test_by_hand(self):
        for kind in kinds():
            for saying in by_hand(kind):
                self.assertIsInstance(self.check(kind, "ab", saying, 4), int)
                self.check(kind, "cba", saying, 2)

    def test_drawn_ones(self):
        for kind in kinds():
            for letters, most in (("ab", 4), ("c", 7), ("bca", 2)):
                told = [self.check(kind, letters, saying, most) for saying in some_sayings(kind, letters)]
                self.assertGreater(len([x for x in told if isinstance(x, int)]), 20)

    def test_great_ones(self):
        for kind in kinds():
            found = [self.check(kind, "ab", saying, 3) for saying in some_sayings(kind, "ab", 80, 6)]
            self.assertIn(NoClosure, found)
            self.assertIn(TooGreat, found)

    def test_all_ways_of_a_few(self):
        for kind in kinds():
            for saying in (("then", ("star", A), B), ("both", ("sum", A, EMPTY), ("star", ("times", one(kind), A)))):
                machine = built(kind, "ba", saying)
                for word in all_words("ba", 2):
                    same(self, walked(kind, machine, word), said(kind, saying, word))

    def test_nil_and_the_empty_word(self):
        for kind in kinds():
            for letters in ("a", "ba", "cab"):
                same(self, built(kind, letters, NIL), (letters, (), ((),) * len(letters), ()))
                self.assertEqual(rooms(built(kind, letters, EMPTY)), 1)
                same(self, weight(kind, built(kind, letters, EMPTY), ""), one(kind))
                same(self, weight(kind, built(kind, letters, EMPTY), "a"), nought(kind))
                same(self, weight(kind, built(kind, letters, ("star", NIL)), ""), one(kind))
                self.assertEqual(rooms(built(kind, letters, ("star", NIL))), 1)
                self.assertEqual(rooms(built(kind, letters, ("both", NIL, EMPTY))), 0)

    def test_just_twenty_rooms_and_twenty_one(self):
        for kind in kinds():
            x = other_than_nought(kind)[0]
            nine = word_of(9)
            five = word_of(4)
            four = word_of(3)
            for twenty, more in (
                (word_of(19), word_of(20)),
                (("sum", nine, nine), ("sum", nine, word_of(10))),
                (("then", nine, nine), ("then", word_of(10), nine)),
                (("both", five, four), ("both", word_of(6), word_of(2))),
                (("star", word_of(18)), ("star", word_of(19))),
                (("times", x, word_of(19)), ("times", x, word_of(20))),
                (("back", word_of(19)), ("back", word_of(20))),
                (("sum", NIL, word_of(19)), ("sum", EMPTY, word_of(19))),
                (("both", NIL, word_of(19)), ("both", NIL, word_of(20))),
            ):
                self.assertIn(self.check(kind, "ab", twenty, 3), (20, 0))
                self.assertEqual(self.check(kind, "ab", more, 3), TooGreat)
                with self.assertRaises(TooGreat):
                    built(kind, "ab", ("times", nought(kind), more))

    def test_which_refusal_is_met_first(self):
        for kind in kinds():
            no_star = ("star", EMPTY)
            great = word_of(20)
            full = ("sum", word_of(9), word_of(9))
            for saying, refusal in (
                (("sum", no_star, great), NoClosure), (("sum", great, no_star), TooGreat),
                (("then", no_star, great), NoClosure), (("then", great, no_star), TooGreat),
                (("both", no_star, great), NoClosure), (("both", great, no_star), TooGreat),
                (("sum", full, no_star), NoClosure), (("sum", full, A), TooGreat),
                (("star", full), TooGreat), (("star", ("sum", EMPTY, word_of(18))), NoClosure),
                (("star", ("sum", EMPTY, word_of(19))), TooGreat), (("star", great), TooGreat),
                (("sum", ("sum", full, A), no_star), TooGreat), (("sum", no_star, ("sum", full, A)), NoClosure),
                (("both", ("both", word_of(4), word_of(4)), no_star), TooGreat),
                (("star", ("star", ("back", great))), TooGreat), (("star", ("star", word_of(18))), NoClosure),
                (("star", ("sum", ("star", word_of(18)), NIL)), NoClosure),
                (("times", nought(kind), ("sum", no_star, great)), NoClosure),
                (("times", nought(kind), ("sum", great, no_star)), TooGreat),
                (("sum", ("sum", A, no_star), ("sum", great, A)), NoClosure),
                (("sum", ("sum", A, great), ("sum", no_star, A)), TooGreat),
            ):
                self.assertEqual(made(kind, saying), refusal)
                with self.assertRaises(refusal):
                    built(kind, "ab", saying)

    def test_high_ones_and_those_of_many_parts(self):
        for kind in kinds():
            saying = A
            for _ in range(14):
                saying = ("back", saying)
            self.assertEqual(self.check(kind, "ab", saying, 2), 2)
            saying = NIL
            for _ in range(25):
                saying = ("sum", saying, NIL)
            self.assertEqual(self.check(kind, "ab", saying, 2), 0)


def high_one(high):
    saying = A
    for _ in range(high - 1):
        saying = ("back", saying)
    return saying


def wide_one(count):
    # So many parts, as low as may be: pairs of these, and where one is left over, turned.
    if count == 1:
        return A
    if count == 2:
        return ("back", B)
    first = (count - 1) // 2
    return ("sum", wide_one(first), wide_one(count - 1 - first))


class Texts(unittest.TestCase):
    def test_as_the_document_tells(self):
        text = "sum word ab times 1/2 star word b"
        saying = ("sum", AB, ("times", (1, 2), ("star", B)))
        same(self, read_saying(Fractions(), "ab", text), saying)
        same(self, shown_saying(Fractions(), saying), text)

    def test_some_by_hand(self):
        for kind, letters, text, saying in (
            (Fractions(), "a", "nil", NIL),
            (Fractions(), "a", "word -", EMPTY),
            (Fractions(), "ab", "word ab", AB),
            (Fractions(), "ab", "times -7/3 nil", ("times", (-7, 3), NIL)),
            (Fractions(), "ab", "times 0 word ba", ("times", (0, 1), ("word", "ba"))),
            (Residues(7), "ab", "times 6 star word a", ("times", 6, ("star", A))),
            (Costs(), "ab", "times -12 back word ab", ("times", -12, ("back", AB))),
            (Costs(), "ab", "times none both word a nil", ("times", None, ("both", A, NIL))),
            (Truths(), "ab", "times yes then word a word b", ("times", True, ("then", A, B))),
            (Truths(), "ab", "times no word -", ("times", False, EMPTY)),
            (Truths(), "ab", "sum sum word a nil word b", ("sum", ("sum", A, NIL), B)),
            (Truths(), "ab", "sum word a sum nil word b", ("sum", A, ("sum", NIL, B))),
        ):
            same(self, read_saying(kind, letters, text), saying)
            same(self, shown_saying(kind, saying), text)

    def test_words_that_look_like_forms(self):
        kind = Costs()
        same(self, read_saying(kind, "nil", "word nil"), ("word", "nil"))
        same(self, read_saying(kind, "sum", "sum word sum nil"), ("sum", ("word", "sum"), NIL))
        same(self, read_saying(kind, "ums", "then word sum word mu"), ("then", ("word", "sum"), ("word", "mu")))
        same(self, shown_saying(kind, ("word", "nil")), "word nil")
        with self.assertRaises(NoText):
            read_saying(kind, "ab", "word nil")

    def test_back_and_forth(self):
        for kind in kinds():
            for letters in ("ab", "c", "bca"):
                for saying in some_sayings(kind, letters) + (by_hand(kind) if letters == "ab" else []):
                    text = shown_saying(kind, saying)
                    same(self, text, written_saying(kind, saying))
                    same(self, read_saying(kind, letters, text), saying)

    def test_each_weight(self):
        great = 10 ** 30 - 1
        more = {"fractions": [(great, 1), (-great, 1), (1, great), (-great, great - 1)], "costs": [great, -great]}
        for kind in kinds():
            for x in some_weights(kind) + more.get(kind.told(), []):
                saying = ("times", x, ("star", ("times", x, A)))
                same(self, read_saying(kind, "ab", shown_saying(kind, saying)), saying)

    def test_what_is_read_is_what_is_written(self):
        for kind, text in (
            (Fractions(), "sum word ab times 1/2 star word b"), (Fractions(), "times -10 back word -"),
            (Residues(7), "both times 3 nil word a"), (Costs(), "then word b times none word ba"),
            (Truths(), "star times yes sum nil word aa"),
        ):
            read_saying(kind, "ab", text)
            for changed in changed_texts(text):
                try:
                    saying = read_saying(kind, "ab", changed)
                except NoText:
                    continue
                same(self, written_saying(kind, saying), changed)

    def test_just_forty_parts_and_forty_one(self):
        for kind in kinds():
            for count in (1, 2, 7, 39, 40):
                saying = wide_one(count)
                self.assertEqual(len(parts_of(saying)), count)
                same(self, read_saying(kind, "ab", shown_saying(kind, saying)), saying)
            for count in (41, 42, 60, 100):
                saying = wide_one(count)
                self.assertEqual(len(parts_of(saying)), count)
                self.assertLess(height(saying), 12)
                with self.assertRaises(NoText):
                    read_saying(kind, "ab", shown_saying(kind, saying))

    def test_just_twelve_high_and_thirteen(self):
        for kind in kinds():
            x = written_saying(kind, ("times", one(kind), NIL))[:-3]
            for ahead in ("back ", "star ", x, "sum nil ", "then word a ", "both word - "):
                for last in ("nil", "word ab", "word -"):
                    text = ahead * 11 + last
                    saying = read_saying(kind, "ab", text)
                    self.assertEqual(height(saying), 12)
                    same(self, shown_saying(kind, saying), text)
                    for count in (12, 13, 15):
                        with self.assertRaises(NoText):
                            read_saying(kind, "ab", ahead * count + last)
            with self.assertRaises(NoText):
                read_saying(kind, "ab", "sum nil " * 11 + "back nil")
            text = "sum " * 11 + "nil" + " nil" * 11
            self.assertEqual(height(read_saying(kind, "ab", text)), 12)
            with self.assertRaises(NoText):
                read_saying(kind, "ab", "sum " + text + " nil")

    def test_texts_without_end(self):
        for text in ("star " * 100000 + "nil", "sum " * 5000, "nil " * 5000, "times 1 " * 20000 + "nil", "a" * 100000):
            with self.assertRaises(NoText):
                read_saying(Fractions(), "ab", text)

    def test_shown_without_bounds(self):
        for kind in kinds():
            same(self, shown_saying(kind, high_one(15)), "back " * 14 + "word a")
            same(self, shown_saying(kind, wide_one(45)), written_saying(kind, wide_one(45)))

    def test_what_is_no_saying(self):
        for kind in kinds():
            x = written_saying(kind, ("times", one(kind), NIL))[6:-4]
            for text in (
                "", " ", "-", "a", "ab", "word", "times", "sum", "star", "back", "then", "both", "words a", "nils",
                "times " + x, "times nil", "times nil " + x, "times " + x + " " + x + " nil", "times - nil",
                "times  nil",
                "sum nil", "then word a", "both nil", "star", "back", "sum nil nil nil", "nil nil", "star nil nil",
                "word a b", "word a word b", "word a nil", "back word", "sum word word a", "sum word a word",
                " nil", "nil ", "sum  nil nil", "sum nil  nil", "sum nil nil ", " sum nil nil", "word  a", "word a ",
                "word ", "word  ", "word -  ", "word --", "word a-", "word -a", "word - -",
                "nil\n", "\nnil", "word a\n", "word\na", "sum\nnil nil", "word\ta", "nil\t", "nil\r", "word\u00a0a",
                "Nil", "NIL", "Word a", "word A", "word aB", "Sum nil nil", "sum NIL nil", "Star nil",
                "word c", "word abc", "word ca", "word \u00e4", "word 1", "word a1", "word a,b", "word 'a'",
                "(nil)", "sum(nil nil)", "sum nil, nil", "nought", "one", "plus nil nil", "join nil nil", "scale nil",
                "times " + x + ", nil", "times " + x + "x nil", "times +" + x + " nil", "times " + x + "\n nil",
            ):
                with self.assertRaises(NoText, msg=text):
                    read_saying(kind, "ab", text)

    def test_letters_that_are_none_of_the_letters(self):
        for letters, text in (("a", "word b"), ("a", "word ab"), ("ba", "star word c"), ("xyz", "sum word x word a")):
            with self.assertRaises(NoText):
                read_saying(Truths(), letters, text)

    def test_weights_that_are_none(self):
        for kind, weights in (
            (Fractions(), ("2/4", "1/1", "3/1", "0/2", "01", "-0", "+1", "1/-2", "1/0", "1/", "/2", "1.5", "none")),
            (Residues(7), ("7", "8", "-1", "01", "1/2", "none", "no", "")),
            (Costs(), ("None", "1/2", "yes", "-0", "00", "nil", "1e3", "--1")),
            (Truths(), ("True", "False", "1", "0", "none", "Yes", "y", "")),
        ):
            for x in weights + ("1" + "0" * 30, "-" + "9" * 31, "1/" + "9" * 31):
                for text in ("times " + x + " nil", "sum word a times " + x + " word b"):
                    with self.assertRaises(NoText, msg=text):
                        read_saying(kind, "ab", text)

    def test_what_is_no_text(self):
        for kind in kinds():
            for thing in NO_TEXTS + (NIL, ["nil"], NeverCompared()):
                with self.assertRaises(NoText):
                    read_saying(kind, "ab", thing)
