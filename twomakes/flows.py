"""Flows: the walk of a plain run, what its steps hand on, cones and chains."""

from twomakes.mills import cell_at, spots_read
from twomakes.plain import moves_of
from twomakes.things import ask_hold, ask_step, thing_of


def things_read(row, spots):
    things = [("spot", spot) for spot in spots_read(row)]
    if row[0] == "take":
        things.append(("cell", cell_at(spots[row[2]], row[3])))
    return things


def walk_of(mill, state, most, bells=None):
    walk = []
    for ahead, k, end in moves_of(mill, state, most, bells)[1]:
        if end is not None:
            place = end[0]
            walk.append((place, things_read(mill[0][place], ahead[1]), thing_of(end[1])))
    return walk


def hands_on(walk, i):
    ask_step(walk, i)
    thing = walk[i][2]
    later = []
    if thing is None:
        return later
    for j in range(i + 1, len(walk)):
        if thing in walk[j][1]:
            later.append(j)
        if walk[j][2] == thing:
            return later
    return later


def last_writer(walk, time, thing):
    for i in range(time - 1, -1, -1):
        if walk[i][2] == thing:
            return i
    return None


# For each step those that hand on to it, all in one pass: no cone need search back.
def sources_of(walk):
    last = {}
    sources = []
    for i, one in enumerate(walk):
        sources.append([last[thing] for thing in one[1] if thing in last])
        if one[2] is not None:
            last[one[2]] = i
    return sources


# Each step of the cones with these heads (their last steps), and with it a step of the
# cones that it hands on to, so that a chain is found without searching; a head has None.
def ways_to(walk, heads):
    sources = sources_of(walk)
    ways = {}
    for head in heads:
        ways[head] = None
    for j in range(len(walk) - 1, -1, -1):
        if j in ways:
            for i in sources[j]:
                ways.setdefault(i, j)
    return ways


def ways_to_hold(walk, time, thing):
    ask_hold(time, thing, len(walk))
    head = last_writer(walk, time, thing)
    return {} if head is None else ways_to(walk, [head])


def cone(walk, time, thing):
    return sorted(ways_to_hold(walk, time, thing))


def chain(walk, i, time, thing):
    ways = ways_to_hold(walk, time, thing)
    ask_step(walk, i)
    if i not in ways:
        return None
    links = [i]
    while ways[links[-1]] is not None:
        links.append(ways[links[-1]])
    return links
