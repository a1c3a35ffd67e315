import unittest

from reckoned import (
    NO_TEXTS, NeverCompared, all_words, changed_texts, drawn, filled, kinds, same, thinned, walked, without_rooms,
    written_machine,
)
from weighwalk.errors import NoText
from weighwalk.kinds import Costs, Fractions, Residues, Truths
from weighwalk.least import least
from weighwalk.machines import is_machine, weight
from weighwalk.texts import read_machine, shown_machine

HALF = (1, 2)
ONE = (1, 1)
NOUGHT = (0, 1)
EXAMPLE = ("ab", (ONE, NOUGHT), (((NOUGHT, ONE), (HALF, NOUGHT)), ((ONE, ONE), (NOUGHT, ONE))), (NOUGHT, (3, 1)))
EXAMPLE_TEXT = "ab | 1 0 | 0 1, 1/2 0 | 1 1, 0 1 | 0 3"


def some_machines(kind):
    told = []
    for letters in ("a", "z", "ab", "ba", "cab", "bca", "zxy"):
        told.append(without_rooms(letters))
        for size in (1, 2, 3, 5):
            told.append(drawn(kind, letters, size, 3 * size))
            told.append(thinned(kind, letters, size, size))
    return told + [drawn(kind, "ba", 20, 4), drawn(kind, "cab", 20, 5), drawn(kind, "a", 19, 6)]


class BackAndForth(unittest.TestCase):
    def test_as_the_document_tells(self):
        same(self, read_machine(Fractions(), EXAMPLE_TEXT), EXAMPLE)
        same(self, shown_machine(Fractions(), EXAMPLE), EXAMPLE_TEXT)
        for kind in kinds():
            same(self, read_machine(kind, "a | - | - | -"), ("a", (), ((),), ()))
            same(self, shown_machine(kind, ("a", (), ((),), ())), "a | - | - | -")

    def test_some_by_hand(self):
        for kind, text, machine in (
            (Residues(7), "a | 3 | 6 | 0", ("a", (3,), (((6,),),), (0,))),
            (Residues(2), "ba | 1 0 | 1 1, 0 0 | 0 0, 1 1 | 0 1", (
                "ba", (1, 0), (((1, 1), (0, 0)), ((0, 0), (1, 1))), (0, 1)
            )),
            (Costs(), "ab | none | -3 | 12 | 0", ("ab", (None,), (((-3,),), ((12,),)), (0,))),
            (Costs(), "z | 0 none | none -1, 7 none | 5 none", (
                "z", (0, None), (((None, -1), (7, None)),), (5, None)
            )),
            (Truths(), "cab | yes | no | yes | no | yes", (
                "cab", (True,), (((False,),), ((True,),), ((False,),)), (True,)
            )),
            (Fractions(), "b | -1/2 | 10/3 | -7", ("b", ((-1, 2),), ((((10, 3),),),), ((-7, 1),))),
            (Truths(), "xyz | - | - | - | - | -", ("xyz", (), ((), (), ()), ())),
        ):
            same(self, read_machine(kind, text), machine)
            same(self, shown_machine(kind, machine), text)

    def test_drawn_ones(self):
        for kind in kinds():
            for machine in some_machines(kind):
                text = shown_machine(kind, machine)
                same(self, text, written_machine(kind, machine))
                told = read_machine(kind, text)
                same(self, told, machine)
                self.assertIs(is_machine(kind, told), True)

    def test_letters_that_look_like_weights(self):
        same(self, read_machine(Truths(), "no | no | no | no | no"), ("no", (False,), (((False,),),) * 2, (False,)))
        same(self, read_machine(Truths(), "yes | yes | no | no | no | yes"), (
            "yes", (True,), (((False,),),) * 3, (True,)
        ))

    def test_rows_and_tables_are_not_turned(self):
        kind = Residues(7)
        machine = read_machine(kind, "ba | 1 2 | 3 4, 5 6 | 0 1, 2 3 | 4 5")
        same(self, machine, ("ba", (1, 2), (((3, 4), (5, 6)), ((0, 1), (2, 3))), (4, 5)))
        for word in all_words("ba", 3):
            same(self, weight(kind, machine, word), walked(kind, machine, word))

    def test_great_weights(self):
        great = 10 ** 30 - 1
        machine = ("a", ((-great, great - 1),), ((((great, 1),),),), ((1, great),))
        same(self, read_machine(Fractions(), shown_machine(Fractions(), machine)), machine)
        machine = ("a", (great,), (((-great,),),), (None,))
        same(self, read_machine(Costs(), shown_machine(Costs(), machine)), machine)
        more = ("a", (10 ** 30,), (((0,),),), (0,))
        self.assertEqual(shown_machine(Costs(), more), "a | 1" + "0" * 30 + " | 0 | 0")
        with self.assertRaises(NoText):
            read_machine(Costs(), shown_machine(Costs(), more))

    def test_what_the_program_tells_is_shown(self):
        for kind in (Fractions(), Residues(7)):
            for machine in some_machines(kind)[:20]:
                told = least(kind, machine)
                same(self, shown_machine(kind, told), written_machine(kind, told))

    def test_shown_with_more_than_twenty_rooms(self):
        for kind in kinds():
            machine = drawn(kind, "a", 21)
            same(self, shown_machine(kind, machine), written_machine(kind, machine))


class NoMachine(unittest.TestCase):
    def refused(self, kind, text):
        with self.assertRaises(NoText, msg=repr(text)):
            read_machine(kind, text)

    def test_what_is_read_is_what_is_written(self):
        for kind, text in (
            (Fractions(), EXAMPLE_TEXT), (Fractions(), "a | -1/2 | 12 | 0"), (Fractions(), "a | - | - | -"),
            (Residues(7), "ba | 1 2 | 3 4, 5 6 | 0 1, 2 3 | 4 5"), (Costs(), "a | 0 none | 1 -2, 3 4 | none 5"),
            (Truths(), "ab | yes | no | yes | no"), (Truths(), "cab | - | - | - | - | -"),
        ):
            read_machine(kind, text)
            for changed in changed_texts(text):
                try:
                    machine = read_machine(kind, changed)
                except NoText:
                    continue
                same(self, written_machine(kind, machine), changed)
                self.assertIs(is_machine(kind, machine), True)

    def test_pieces_left_out_or_told_twice(self):
        for kind in kinds():
            for machine in some_machines(kind)[:40]:
                pieces = written_machine(kind, machine).split(" | ")
                for place in range(len(pieces)):
                    # Truths written stand for letters, too: "no | no | no | no | no" is a machine.
                    if place > 0 or not isinstance(kind, Truths):
                        self.refused(kind, " | ".join(pieces[:place] + pieces[place + 1:]))
                    self.refused(kind, " | ".join(pieces[:place] + [pieces[place]] + pieces[place:]))
                    self.refused(kind, " | ".join(pieces[:place] + [""] + pieces[place + 1:]))

    def test_rows_and_weights_left_out_or_told_twice(self):
        for kind in kinds():
            for machine in (drawn(kind, "a", 1), drawn(kind, "ab", 2), drawn(kind, "ba", 3)):
                text = written_machine(kind, machine)
                pieces = text.split(" | ")
                for place in range(1, len(pieces)):
                    for parted in (", ", " "):
                        inner = pieces[place].split(parted)
                        for other in range(len(inner)):
                            less = inner[:other] + inner[other + 1:]
                            more = inner[:other + 1] + inner[other:]
                            for changed in (less, more):
                                changed = pieces[:place] + [parted.join(changed)] + pieces[place + 1:]
                                self.refused(kind, " | ".join(changed))

    def test_other_numbers_of_rooms(self):
        for text in (
            "a | 1 | 1 1, 1 1 | 1", "a | 1 1 | 1 | 1 1", "a | 1 1 | 1 1, 1 1 | 1", "a | 1 | 1 | 1 1",
            "a | 1 | 1, 1 | 1",
            "a | 1 1 | 1 1 | 1 1", "a | 1 1 | 1, 1 | 1 1", "a | 1 1 | 1 1, 1 1, 1 1 | 1 1", "a | 1 1 | 1 1 1, 1 | 1 1",
            "ab | 1 | 1 | 1 1, 1 1 | 1", "ab | 1 1 | 1 1, 1 1 | 1 | 1 1",
        ):
            for kind in (Fractions(), Residues(7), Costs()):
                self.refused(kind, text)
            self.refused(Truths(), text.replace("1", "yes"))

    def test_a_line_where_there_are_rooms_and_none_where_there_are_no_rooms(self):
        for kind in kinds():
            x = written_machine(kind, filled(kind, "a", 1, kind.one())).split(" | ")[1]
            for text in (
                "a | - | x | x", "a | x | - | x", "a | x | x | -", "a | - | - | x", "a | x | - | -", "a | - | x | -",
            ):
                self.refused(kind, text.replace("x", x))
            for text in (
                "a | - - | - | -", "a | - | -, - | -", "a | - | - - | -", "a |  |  | ", "a | | | ", "a | - | | -",
            ):
                self.refused(kind, text)
            for text in ("a | x - | x x, x x | x x", "a | x x | x x, - | x x", "a | x x | x x, x - | x x"):
                self.refused(kind, text.replace("x", x))

    def test_other_blanks_commas_and_bars(self):
        for text in (
            "ab| 1 0 | 0 1, 1/2 0 | 1 1, 0 1 | 0 3", "ab |1 0 | 0 1, 1/2 0 | 1 1, 0 1 | 0 3",
            "ab | 1  0 | 0 1, 1/2 0 | 1 1, 0 1 | 0 3", "ab | 1 0 | 0 1,1/2 0 | 1 1, 0 1 | 0 3",
            "ab | 1 0 | 0 1 , 1/2 0 | 1 1, 0 1 | 0 3", "ab | 1 0 | 0 1,  1/2 0 | 1 1, 0 1 | 0 3",
            "ab | 1 0 | 0 1; 1/2 0 | 1 1, 0 1 | 0 3", "ab | 1 0 | 0, 1, 1/2, 0 | 1 1, 0 1 | 0 3",
            "ab | 1, 0 | 0 1, 1/2 0 | 1 1, 0 1 | 0 3", "ab | 1 0 | 0 1, 1/2 0, | 1 1, 0 1 | 0 3",
            "ab | 1 0 | 0 1, 1/2 0 | 1 1, 0 1 | 0, 3", "ab || 1 0 | 0 1, 1/2 0 | 1 1, 0 1 | 0 3",
            "ab  |  1 0 | 0 1, 1/2 0 | 1 1, 0 1 | 0 3", "ab, 1 0 | 0 1, 1/2 0 | 1 1, 0 1 | 0 3",
            "| ab | 1 0 | 0 1, 1/2 0 | 1 1, 0 1 | 0 3", EXAMPLE_TEXT + " |", EXAMPLE_TEXT + " | ", EXAMPLE_TEXT + "|",
            " " + EXAMPLE_TEXT, EXAMPLE_TEXT + " ", EXAMPLE_TEXT + "\n", "\n" + EXAMPLE_TEXT, EXAMPLE_TEXT + ",",
            EXAMPLE_TEXT.replace(" ", "\t"), EXAMPLE_TEXT.replace(" | ", "\n"), EXAMPLE_TEXT.replace(" ", ""),
            EXAMPLE_TEXT.replace(" ", "\u00a0"), EXAMPLE_TEXT.replace(", ", " | "), EXAMPLE_TEXT.replace(" | ", ", "),
            EXAMPLE_TEXT.replace(" | ", " / "), EXAMPLE_TEXT * 2, EXAMPLE_TEXT + " | " + EXAMPLE_TEXT,
        ):
            self.refused(Fractions(), text)

    def test_letters_that_are_none(self):
        for letters in ("", "A", "aB", "aa", "1", "a1", "-", " a", "a ", "a b", "\u00e4", "a,", "a\n", "("):
            for kind in kinds():
                self.refused(kind, " | ".join([letters] + ["-"] * (len(letters) + 2)))
                self.refused(kind, letters + " | - | - | -")
        for kind in kinds():
            self.refused(kind, " | ".join(["abcd"] + ["-"] * 6))
            self.refused(kind, " | ".join(["aba"] + ["-"] * 5))

    def test_weights_that_are_none(self):
        for kind, weights in (
            (Fractions(), ("2/4", "1/1", "0/2", "01", "-0", "+1", "1/-2", "1/0", "1/", "/2", "1.5", "none", "x")),
            (Residues(7), ("7", "8", "-1", "01", "1/2", "none", "no", "x")),
            (Costs(), ("None", "1/2", "yes", "-0", "00", "--1", "x")),
            (Truths(), ("True", "False", "1", "0", "none", "Yes", "x")),
        ):
            good = written_machine(kind, filled(kind, "a", 2, kind.one()))
            places = good.split(" ")
            for x in weights + ("1" + "0" * 30, "-" + "9" * 31, "1/" + "9" * 31):
                for place in range(len(places)):
                    if places[place] in ("a", "|"):
                        continue
                    comma = "," if places[place].endswith(",") else ""
                    self.refused(kind, " ".join(places[:place] + [x + comma] + places[place + 1:]))

    def test_of_another_kind(self):
        self.refused(Costs(), "a | 1/2 | 1 | 1")
        self.refused(Residues(7), EXAMPLE_TEXT)
        self.refused(Truths(), EXAMPLE_TEXT)
        self.refused(Fractions(), "a | none | 1 | 1")
        self.refused(Residues(2), "a | 2 | 1 | 1")

    def test_just_twenty_rooms_and_twenty_one(self):
        for kind in kinds():
            for letters in ("a", "ba"):
                machine = drawn(kind, letters, 20, 9)
                same(self, read_machine(kind, written_machine(kind, machine)), machine)
                for size in (21, 22, 30):
                    self.refused(kind, written_machine(kind, drawn(kind, letters, size, 9)))

    def test_other_texts(self):
        for kind in kinds():
            for text in (
                "", " ", "a", "-", "|", " | ", " |  |  | ", "a | -", "a | - | -", "nil", "word a", "ab | - | - | -",
            ):
                self.refused(kind, text)

    def test_what_is_no_text(self):
        for kind in kinds():
            for thing in NO_TEXTS + (without_rooms("a"), ["a | - | - | -"], b"a | - | - | -", NeverCompared()):
                self.refused(kind, thing)
