"""Sure machines: machines over truths by which each word has just one way."""

from weighwalk.building import need_same_letters
from weighwalk.errors import TooGreat
from weighwalk.kinds import Truths
from weighwalk.tables import unit

MOST_SETS = 20


def first_set(machine):
    return tuple([room for room, x in enumerate(machine[1]) if x])


def next_set(table, within):
    return tuple([room for room in range(len(table)) if any([table[other][room] for other in within])])


def ends_within(machine, within):
    return any([machine[3][room] for room in within])


def sets_of(machine):
    told = [first_set(machine)]
    place = 0
    while place < len(told):
        for table in machine[2]:
            after = next_set(table, told[place])
            if after not in told:
                told.append(after)
        # Asked on the way: to find all of them first might take far too long.
        if len(told) > MOST_SETS:
            raise TooGreat("there are more than twenty sets")
        place = place + 1
    return told


def steps_of(machine, found):
    return [[found.index(next_set(table, within)) for within in found] for table in machine[2]]


def ends_of(machine, found):
    return [ends_within(machine, within) for within in found]


def sure_machine(letters, steps, ends):
    kind = Truths()
    size = len(ends)
    tables = [tuple([unit(kind, size, room) for room in column]) for column in steps]
    return (letters, unit(kind, size, 0), tuple(tables), tuple(ends))


def sure(machine):
    found = sets_of(machine)
    return sure_machine(machine[0], steps_of(machine, found), ends_of(machine, found))


def numbered(things):
    firsts = []
    told = []
    for thing in things:
        if thing not in firsts:
            firsts.append(thing)
        told.append(firsts.index(thing))
    return told


def sorts_of(steps, ends):
    # Rooms that words of so many letters don't tell apart have one number;
    # where a letter more tells no more apart, none ever will.
    finer = numbered(ends)
    told = []
    while finer != told:
        told = finer
        finer = numbered([[told[room]] + [told[column[room]] for column in steps] for room in range(len(ends))])
    return told


def least_sure(machine):
    found = sets_of(machine)
    steps = steps_of(machine, found)
    ends = ends_of(machine, found)
    sorts = sorts_of(steps, ends)
    firsts = [sorts.index(number) for number in range(max(sorts) + 1)]
    least_steps = [[sorts[column[room]] for room in firsts] for column in steps]
    return sure_machine(machine[0], least_steps, [ends[room] for room in firsts])


def first_words(one, other):
    # Each pair of sets has its first word; the pairs come in the order of these.
    told = {(first_set(one), first_set(other)): ""}
    last = list(told)
    while len(last) > 0:
        fresh = []
        for pair in last:
            for letter, first, second in zip(one[0], one[2], other[2]):
                after = (next_set(first, pair[0]), next_set(second, pair[1]))
                if after not in told:
                    told[after] = told[pair] + letter
                    fresh.append(after)
        last = fresh
    return told


def sure_alike(one, other):
    need_same_letters(one, other)
    # Only whether these are too many is asked; where they aren't, there are few pairs.
    sets_of(one)
    sets_of(other)
    word_of = first_words(one, other)
    for pair, word in word_of.items():
        if ends_within(one, pair[0]) != ends_within(other, pair[1]):
            return ("no", word)
    return ("yes", list(word_of))
