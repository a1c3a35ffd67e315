"""The desk: machines kept by names, and rows told to it."""

from weighwalk.alike import alike
from weighwalk.building import added, closed, crossed, joined, scaled, turned
from weighwalk.cheap import cheapest
from weighwalk.errors import NoName, NoRow, NoText, WrongKind
from weighwalk.kinds import Costs, Truths
from weighwalk.least import least
from weighwalk.machines import SMALL_LETTERS, is_word, rooms, weight
from weighwalk.sayings import built, read_saying, read_word, shown_word
from weighwalk.sure import least_sure, sure_alike
from weighwalk.texts import read_machine, shown_machine

LONGEST_NAME = 8
# What stands behind the first word of each row: a new name, a kept one, a word that tells something,
# or all the rest of the row.
ROWS = {
    "say": ("new", "rest"),
    "read": ("new", "rest"),
    "scale": ("new", "kept", "text"),
    "add": ("new", "kept", "kept"),
    "join": ("new", "kept", "kept"),
    "cross": ("new", "kept", "kept"),
    "turn": ("new", "kept"),
    "close": ("new", "kept"),
    "least": ("new", "kept"),
    "rooms": ("kept",),
    "show": ("kept",),
    "weigh": ("kept", "text"),
    "alike": ("kept", "kept"),
    "cheapest": ("kept",),
}


def pieces_of(row):
    form = row.partition(" ")[0] if isinstance(row, str) else ""
    if form not in ROWS:
        raise NoRow("no row begins so")
    wanted = ROWS[form]
    # A saying and a machine keep their blanks.
    pieces = row.split(" ", len(wanted)) if wanted[-1] == "rest" else row.split(" ")
    if len(pieces) != len(wanted) + 1:
        raise NoRow("a row has as many words as are told of it")
    return pieces


def is_name(text):
    return 1 <= len(text) <= LONGEST_NAME and is_word(SMALL_LETTERS, text)


def need_names(kept, pieces):
    for piece, wanted in zip(pieces[1:], ROWS[pieces[0]]):
        if wanted == "new" and not is_name(piece):
            raise NoName("a name is one to eight small letters")
        if wanted == "kept" and piece not in kept:
            raise NoName("no machine is kept by this name")


def read_with_letters(kind, letters, text):
    machine = read_machine(kind, text)
    if machine[0] != letters:
        raise NoText("a machine at a desk has the desk's letters")
    return machine


def paired(kind, form, one, other):
    if form == "add":
        return added(kind, one, other)
    if form == "join":
        return joined(kind, one, other)
    return crossed(kind, one, other)


def least_told(kind, machine):
    if isinstance(kind, Truths):
        return least_sure(machine)
    return least(kind, machine)


def alike_told(kind, one, other):
    told = sure_alike(one, other) if isinstance(kind, Truths) else alike(kind, one, other)
    if told[0] == "yes":
        return "yes"
    return "no " + shown_word(told[1])


def cheapest_told(kind, machine):
    if not isinstance(kind, Costs):
        raise WrongKind("only costs have a cheapest word")
    told = cheapest(machine)
    return kind.shown(told[1]) if told[0] == "least" else told[0]


class Desk:
    def __init__(self, kind, letters):
        self.kind = kind
        self.letters = letters
        self.kept = {}

    def say(self, row):
        pieces = pieces_of(row)
        need_names(self.kept, pieces)
        if ROWS[pieces[0]][0] == "new":
            # Where it can't be made, what was kept by the name stays.
            self.kept[pieces[1]] = self.made(pieces)
            return "ok"
        return self.answered(pieces)

    def made(self, pieces):
        form = pieces[0]
        if form == "say":
            return built(self.kind, self.letters, read_saying(self.kind, self.letters, pieces[2]))
        if form == "read":
            return read_with_letters(self.kind, self.letters, pieces[2])
        one = self.kept[pieces[2]]
        if form == "scale":
            return scaled(self.kind, self.kind.read(pieces[3]), one)
        if form == "turn":
            return turned(self.kind, one)
        if form == "close":
            return closed(self.kind, one)
        if form == "least":
            return least_told(self.kind, one)
        return paired(self.kind, form, one, self.kept[pieces[3]])

    def answered(self, pieces):
        form = pieces[0]
        one = self.kept[pieces[1]]
        if form == "rooms":
            return str(rooms(one))
        if form == "show":
            return shown_machine(self.kind, one)
        if form == "weigh":
            return self.kind.shown(weight(self.kind, one, read_word(self.letters, pieces[2])))
        if form == "alike":
            return alike_told(self.kind, one, self.kept[pieces[2]])
        return cheapest_told(self.kind, one)
