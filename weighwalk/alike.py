"""Two machines over a field held against one another."""

from weighwalk.building import need_same_letters, put_beside
from weighwalk.least import free_words, heads, narrowed, with_letter_behind
from weighwalk.machines import rooms
from weighwalk.spans import echelon, need_field
from weighwalk.tables import dot


def less(kind, one, other):
    minus_ends = tuple([kind.minus(x) for x in other[3]])
    return put_beside(kind, one, (other[0], other[1], other[2], minus_ends))


def parting(kind, both, found):
    return [word for word, row in found if dot(kind, row, both[3]) != kind.nought()]


def grown_while_alike(kind, both, last):
    if len(parting(kind, both, last)) > 0:
        return []
    return with_letter_behind(kind, both, last)


def walkable(kind, both, rows):
    kept = echelon(kind, rows)
    narrow = narrowed(kind, both, kept)
    steps = [[list(row) for row in table] for table in narrow[2]]
    return ([row for place, row in kept], list(narrow[1]), steps)


def alike(kind, one, other):
    need_field(kind)
    need_same_letters(one, other)
    both = less(kind, one, other)
    # The first word that parts them is free: were its row a sum of earlier ones, one of these would part them.
    found = free_words(kind, both[1], lambda last: grown_while_alike(kind, both, last))
    parted = parting(kind, both, found)
    if len(parted) > 0:
        return ("no", parted[0])
    return ("yes", walkable(kind, both, [row for word, row in found]))


def turning(kind, one, other):
    told = alike(kind, one, other)
    size = rooms(one)
    if told[0] == "no" or rooms(other) != size or len(heads(kind, one)) != size:
        return None
    # The first one's rooms are all leading places, so that its part of the rows has one from corner
    # to corner; the other part is what its rooms come to in the second one.
    return tuple([row[size:] for row in told[1][0]])
