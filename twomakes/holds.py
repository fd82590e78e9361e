"""Held worths: how long they stand, which steps holds see, and the fewest holds that see all."""

from twomakes.errors import NoStep
from twomakes.flows import hands_on, last_writer, ways_to
from twomakes.things import ask_hold, ask_step, ask_thing


def stands(walk, i):
    ask_step(walk, i)
    thing = walk[i][2]
    if thing is None:
        raise NoStep("the step wrote nothing")
    for j in range(i + 1, len(walk)):
        if walk[j][2] == thing:
            return (i + 1, j)
    return (i + 1, len(walk))


def written_steps(walk):
    return [i for i, one in enumerate(walk) if one[2] is not None]


def is_read(walk, i):
    return any([walk[j][2] is not None for j in hands_on(walk, i)])


def unread(walk):
    return [i for i in written_steps(walk) if not is_read(walk, i)]


def unseen(walk, holds):
    for time, thing in holds:
        ask_hold(time, thing, len(walk))
    heads = [last_writer(walk, time, thing) for time, thing in holds]
    seen = ways_to(walk, [head for head in heads if head is not None])
    return [i for i in written_steps(walk) if i not in seen]


def holds_at(walk, places, things):
    for thing in things:
        ask_thing(thing)
    holds = []
    for i, one in enumerate(walk):
        if one[0] in places:
            holds.extend([(i, thing) for thing in things])
    return sorted(set(holds))


# Tuples (time, unread step, whether it is lone), by the ends of their stands. A time
# is the last one at which some worth stands that none of the times before meets:
# so each lone worth begins behind all times before its own, and the lone ones never
# stand together, while every other one stands at the newest time.
def meetings(walk):
    met = []
    newest = -1
    for last, first, i in sorted([(stands(walk, i)[1], stands(walk, i)[0], i) for i in unread(walk)]):
        lone = first > newest
        if lone:
            newest = last
        met.append((newest, i, lone))
    return met


def least_holds(walk):
    return sorted([(time, walk[i][2]) for time, i, lone in meetings(walk)])


def lone_steps(walk):
    return sorted([i for time, i, lone in meetings(walk) if lone])
