"""Things, spots and cells by their numbers, and the refusals of what is none and of steps that are not there."""

from twomakes.errors import NoHold, NoStep
from twomakes.mills import CELLS, SPOTS


def thing_of(wrote):
    return None if wrote is None else (wrote[0], wrote[1])


def is_thing(thing):
    if thing[0] == "spot":
        return 0 <= thing[1] < SPOTS
    return thing[0] == "cell" and 0 <= thing[1] < CELLS


def ask_thing(thing):
    if not is_thing(thing):
        raise NoHold("what is held is neither a spot nor a cell")


def ask_time(time, longest):
    if not 0 <= time <= longest:
        raise NoHold("there is no such time")


def ask_hold(time, thing, longest):
    ask_time(time, longest)
    ask_thing(thing)


def ask_step(walk, i):
    if not 0 <= i < len(walk):
        raise NoStep("the walk has no such step")
