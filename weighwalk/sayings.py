"""Sayings: what words weigh by them, their machines, and how they are written and read."""

from weighwalk.building import added, closed, crossed, joined, need_closable, scaled, single, turned
from weighwalk.errors import NoText
from weighwalk.kinds import need_text
from weighwalk.learn import answer
from weighwalk.machines import SMALL_LETTERS, is_word, need_word

MOST_PARTS = 40
MOST_HIGH = 12
# How many sayings stand within each form; they stand last in it.
WITHIN = {"nil": 0, "word": 0, "times": 1, "sum": 2, "then": 2, "both": 2, "back": 1, "star": 1}


def sayings_within(saying):
    return saying[len(saying) - WITHIN[saying[0]]:]


def built(kind, letters, saying):
    form = saying[0]
    made = [built(kind, letters, part) for part in sayings_within(saying)]
    if form == "nil":
        return (letters, (), tuple([() for letter in letters]), ())
    if form == "word":
        return single(kind, letters, saying[1], kind.one())
    if form == "times":
        return scaled(kind, saying[1], made[0])
    if form == "back":
        return turned(kind, made[0])
    if form == "star":
        return closed(kind, made[0])
    if form == "sum":
        return added(kind, made[0], made[1])
    if form == "then":
        return joined(kind, made[0], made[1])
    return crossed(kind, made[0], made[1])


def cut_weight(kind, first, second, word, least_cut):
    told = kind.nought()
    for place in range(least_cut, len(word) + 1):
        # Most pieces weigh nought: what stands behind these need not be weighed.
        x = first(word[:place])
        if x != kind.nought():
            told = kind.plus(told, kind.times(x, second(word[place:])))
    return told


def star_weight(kind, of, known, word):
    # The shorter ends go first, so that no call goes deep.
    for place in range(len(word) - 1, -1, -1):
        rest = word[place:]
        if rest not in known:
            known[rest] = cut_weight(kind, of, lambda last: known[last], rest, 1)
    return known[word]


def star_weigher(kind, of):
    need_closable(kind, of(""))
    known = {"": kind.one()}
    return lambda word: star_weight(kind, of, known, word)


def then_weigher(kind, first, second):
    # Kept, since a piece is weighed for each cut of each longer one that it stands in.
    known = {}

    def weigh(word):
        return cut_weight(kind, first, second, word, 0)

    return lambda word: answer(known, weigh, word)


def weigher(kind, saying):
    # Each part is gone through ahead of all weighing: so a star is refused wherever it stands.
    form = saying[0]
    of = [weigher(kind, part) for part in sayings_within(saying)]
    if form == "nil":
        return lambda word: kind.nought()
    if form == "word":
        return lambda word: kind.one() if word == saying[1] else kind.nought()
    if form == "times":
        return lambda word: kind.times(saying[1], of[0](word))
    if form == "back":
        return lambda word: of[0](word[::-1])
    if form == "star":
        return star_weigher(kind, of[0])
    if form == "sum":
        return lambda word: kind.plus(of[0](word), of[1](word))
    if form == "then":
        return then_weigher(kind, of[0], of[1])
    return lambda word: kind.times(of[0](word), of[1](word))


def said_weight(kind, saying, word):
    need_word(SMALL_LETTERS, word)
    return weigher(kind, saying)(word)


def shown_word(word):
    return "-" if word == "" else word


def read_word(letters, text):
    if text == "-":
        return ""
    if text == "" or not is_word(letters, text):
        raise NoText("a word is written by its letters, the empty one as -")
    return text


def shown_saying(kind, saying):
    pieces = [saying[0]]
    if saying[0] == "word":
        pieces.append(shown_word(saying[1]))
    if saying[0] == "times":
        pieces.append(kind.shown(saying[1]))
    pieces.extend([shown_saying(kind, part) for part in sayings_within(saying)])
    return " ".join(pieces)


def next_piece(pieces):
    if len(pieces) == 0:
        raise NoText("a saying breaks off")
    return pieces.pop()


def read_pieces(kind, letters, pieces, high):
    form = next_piece(pieces)
    # Asked on the way: a text without end of stars would be gone into too deep.
    if form not in WITHIN or high > MOST_HIGH:
        raise NoText("no saying is written so, or it is too high")
    told = (form,)
    if form == "word":
        told = told + (read_word(letters, next_piece(pieces)),)
    if form == "times":
        told = told + (kind.read(next_piece(pieces)),)
    for count in range(WITHIN[form]):
        told = told + (read_pieces(kind, letters, pieces, high + 1),)
    return told


def parts_within(saying):
    return 1 + sum([parts_within(part) for part in sayings_within(saying)])


def read_saying(kind, letters, text):
    need_text(text)
    # The pieces are taken from the list's end.
    pieces = list(reversed(text.split(" ")))
    told = read_pieces(kind, letters, pieces, 1)
    if len(pieces) > 0 or parts_within(told) > MOST_PARTS:
        raise NoText("a text tells one saying, of at most forty parts")
    return told
