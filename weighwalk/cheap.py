"""The cheapest of all words of a machine over costs, or a ring by which costs fall without end."""

from weighwalk.machines import rooms


def cheapest_steps(machine):
    # Between two rooms only the cheapest letter counts.
    told = []
    for first in range(rooms(machine)):
        for second in range(rooms(machine)):
            found = [(table[first][second], letter) for letter, table in zip(machine[0], machine[2])]
            there = [pair for pair in found if pair[0] is not None]
            if len(there) > 0:
                told.append((first, second, min(there)))
    return told


def steps_turned(steps):
    return [(second, first, pair) for first, second, pair in steps]


def standing(row):
    # A walk is kept as a tuple (cost, word, way), by the room that it leads to.
    told = {}
    for room, cost in enumerate(row):
        if cost is not None:
            told[room] = (cost, "", (room,))
    return told


def one_step_on(walks, steps):
    # Only walks of the round before are gone on with: so none has more letters than there were rounds.
    told = dict(walks)
    for first, second, pair in steps:
        if first in walks:
            walk = walks[first]
            cost = walk[0] + pair[0]
            if second not in told or cost < told[second][0]:
                told[second] = (cost, walk[1] + pair[1], walk[2] + (second,))
    return told


def cheapest_walks(walks, steps, most):
    told = walks
    for count in range(most):
        told = one_step_on(told, steps)
    return told


def word_and_way(walk):
    return (walk[1], walk[2])


def turned_back(walk):
    return (walk[1][::-1], walk[2][::-1])


def ring_below(steps, room, size):
    walks = {room: (0, "", (room,))}
    for count in range(size):
        walks = one_step_on(walks, steps)
        if walks[room][0] < 0:
            return walks[room]
    return None


def rings_below(steps, useful, size):
    # A ring through a room of use goes through no others, since each of its rooms leads to that one and back.
    rings = [ring_below(steps, room, size) for room in useful]
    return [ring for ring in rings if ring is not None]


def least_walk(machine, forth, useful):
    ended = [(forth[room][0] + machine[3][room], room) for room in useful if machine[3][room] is not None]
    best = min(ended)
    walk = forth[best[1]]
    return (best[0], walk[1], walk[2])


def prices_of(size, forth, useful):
    return [forth[room][0] if room in useful else None for room in range(size)]


def cheapest(machine):
    size = rooms(machine)
    steps = cheapest_steps(machine)
    # Fewer steps than rooms lead wherever any steps lead, and where no ring falls, none are cheaper.
    forth = cheapest_walks(standing(machine[1]), steps, size - 1)
    back = cheapest_walks(standing(machine[3]), steps_turned(steps), size - 1)
    useful = [room for room in forth if room in back]
    if len(useful) == 0:
        return ("none",)
    rings = rings_below(steps, useful, size)
    if len(rings) > 0:
        # The shortest one has no ring within it: a part of it that falls would be shorter still.
        ring = min(rings, key=lambda walk: len(walk[1]))
        room = ring[2][0]
        return ("falls", word_and_way(forth[room]), word_and_way(ring), turned_back(back[room]))
    return ("least",) + least_walk(machine, forth, useful) + (prices_of(size, forth, useful),)
