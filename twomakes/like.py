"""Like places: a diary's bells and settled ends, two diaries side by side, and the plain make's own diary."""

from twomakes.plain import moves_of
from twomakes.things import thing_of


def like_bells(diary):
    bells = []
    ends = 0
    for event in diary:
        if event[0] == "end":
            ends += 1
        elif event[0] == "bell":
            bells.append((ends, event[2]))
    return bells


def own_rings(diary):
    return [(event[1], event[2]) for event in diary if event[0] == "bell"]


def settled(diary):
    ends = []
    for event in diary:
        if event[0] == "end":
            ends.append((event[2], event[3]))
        elif event[0] == "late":
            n = event[2]
            wrote = ends[n][1]
            ends[n] = (ends[n][0], (wrote[0], wrote[1], event[3]))
    return ends


# A list for each end. Bells behind the last end are left out: with them no end is held.
def bells_ahead(diary):
    lists = []
    bells = []
    for event in diary:
        if event[0] == "end":
            lists.append(bells)
            bells = []
        elif event[0] == "bell":
            bells.append(event[2])
    return lists


def are_worths_unlike(wrote, written):
    if wrote is None or wrote[2] is None or written[2] is None:
        return False
    return wrote[2] != written[2]


def cause_between(bells, others, end, ended):
    if bells != others:
        return "bell"
    if end[0] != ended[0]:
        return "place"
    if thing_of(end[1]) != thing_of(ended[1]):
        return "thing"
    return "worth" if are_worths_unlike(end[1], ended[1]) else None


def apart(one, other):
    ends = settled(one)
    others = settled(other)
    bells = bells_ahead(one)
    other_bells = bells_ahead(other)
    for n in range(min(len(ends), len(others))):
        cause = cause_between(bells[n], other_bells[n], ends[n], others[n])
        if cause is not None:
            return (n, cause)
    return None


# Straight behind a lay's end its worth goes down, with the end's own beat.
def events_of_end(n, end):
    place = end[0]
    wrote = end[1]
    event = ("end", n, place, wrote)
    if wrote is None or wrote[0] != "cell":
        return [event]
    return [event, ("down", n, n, wrote[1], wrote[2])]


def plain_diary(mill, state, most, bells=None):
    diary = []
    ends = 0
    for ahead, k, end in moves_of(mill, state, most, bells)[1]:
        if end is None:
            diary.append(("bell", ends, k))
        else:
            diary.extend(events_of_end(ends, end))
            ends += 1
    return diary
