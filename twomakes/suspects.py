"""Suspects: papers of held worths, what is first seen between two lists of ends, and the steps that it hangs on."""

from twomakes.flows import last_writer
from twomakes.things import ask_hold, ask_thing, ask_time, thing_of

# The place that comes next stands among the things seen, though no hold can have it.
NEXT = ("next", 0)


def worth_at(state, ends, time, thing):
    for i in range(time - 1, -1, -1):
        wrote = ends[i][1]
        if thing_of(wrote) == thing:
            return wrote[2]
    worths = state[1] if thing[0] == "spot" else state[2]
    return worths[thing[1]]


def paper(state, ends, holds):
    for time, thing in holds:
        ask_hold(time, thing, len(ends))
    return [worth_at(state, ends, time, thing) for time, thing in holds]


def unlike_holds(state, ones, others, holds):
    unlike = []
    for hold, one, other in zip(holds, paper(state, ones, holds), paper(state, others, holds)):
        if one is not None and other is not None and one != other:
            unlike.append(hold)
    return unlike


def unlike_places(ones, others, shorter):
    return [(t, NEXT) for t in range(shorter) if ones[t][0] != others[t][0]]


def first_seen(state, ones, others, holds):
    shorter = min(len(ones), len(others))
    for time, thing in holds:
        # so that a left out hold is refused by its thing or a time below 0 alone
        ask_hold(min(time, shorter), thing, shorter)
    kept = [hold for hold in holds if hold[0] <= shorter]
    unlike = unlike_holds(state, ones, others, kept) + unlike_places(ones, others, shorter)
    if len(unlike) == 0:
        return None
    first = min([time for time, thing in unlike])
    return (first, sorted(set([thing for time, thing in unlike if time == first])))


def ask_seen(walk, time, thing):
    ask_time(time, len(walk))
    if thing != NEXT:
        ask_thing(thing)


# What a step's things hang on is asked at the step's own number.
def holds_read(walk, i):
    return [(i, thing) for thing in walk[i][1]]


def holds_read_without_writing(walk, time):
    holds = []
    for i in range(time):
        if walk[i][2] is None:
            holds.extend(holds_read(walk, i))
    return holds


# The way to its cell is the last thing that a step read.
def ways_to_cells(walk, first, time):
    holds = []
    for i in range(first, time):
        if walk[i][2] is not None and walk[i][2][0] == "cell":
            holds.extend(holds_read(walk, i)[-1:])
    return holds


def holds_below(walk, time, thing, j):
    if thing == NEXT:
        return holds_read_without_writing(walk, time)
    holds = [] if j is None else holds_read(walk, j)
    if thing[0] == "cell":
        holds.extend(ways_to_cells(walk, 0 if j is None else j, time))
    return holds


def hangs(walk, time, thing):
    ask_seen(walk, time, thing)
    steps = {}
    gone_through = {}
    waiting = [(time, thing)]
    while len(waiting) > 0:
        hold = waiting.pop()
        if hold not in gone_through:
            gone_through[hold] = True
            j = last_writer(walk, hold[0], hold[1])
            if j is not None:
                steps[j] = True
            waiting.extend(holds_below(walk, hold[0], hold[1], j))
    return sorted(steps)


def suspects(walk, seen):
    time = seen[0]
    lists = [hangs(walk, time, thing) for thing in seen[1]]
    return [i for i in lists[0] if all([i in steps for steps in lists])]
