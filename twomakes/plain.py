"""The plain make: states, and one row behind the other."""

from twomakes.errors import NoBell, NoState, Resting, Shut
from twomakes.mills import CELLS, SPOTS, wrapped
from twomakes.rules import ask_bells, is_bell, is_next_due, is_shut_behind, kept_behind, place_behind, what_it_writes


def filled(numbers, count):
    return tuple([wrapped(number) for number in numbers] + [0] * (count - len(numbers)))


def start(spots, cells):
    if len(spots) > SPOTS:
        raise NoState("there are eight spots")
    if len(cells) > CELLS:
        raise NoState("there are sixteen cells")
    return (0, filled(spots, SPOTS), filled(cells, CELLS), False, None)


def rests(mill, state):
    return state[0] == len(mill[0])


def with_written(worths, kind, wrote):
    if wrote is None or wrote[0] != kind:
        return worths
    at = wrote[1]
    return worths[:at] + (wrote[2],) + worths[at + 1:]


def step(mill, state):
    if rests(mill, state):
        raise Resting("the mill rests")
    place = state[0]
    spots = state[1]
    cells = state[2]
    kept = state[4]
    row = mill[0][place]
    wrote = what_it_writes(row, spots, cells)
    behind = (
        place_behind(row, place, spots, kept),
        with_written(spots, "spot", wrote),
        with_written(cells, "cell", wrote),
        is_shut_behind(row, state[3]),
        kept_behind(row, kept),
    )
    return (behind, (place, wrote))


def bell(mill, state, k):
    if not is_bell(mill, k):
        raise NoBell("the mill has no such bell")
    if state[3]:
        raise Shut("bells are kept out")
    return (mill[1][k], state[1], state[2], True, state[0])


# The state behind, and the moves: tuples (state ahead, bell, end), of which a bell
# has no end and a row's end no bell.
def moves_of(mill, state, most, bells):
    listed = [] if bells is None else bells
    ask_bells(mill, listed)
    moves = []
    taken = 0
    while True:
        ends = len(moves) - taken
        if is_next_due(listed, taken, ends, state[3]):
            k = listed[taken][1]
            moves.append((state, k, None))
            state = bell(mill, state, k)
            taken += 1
        elif ends >= most or rests(mill, state):
            return (state, moves)
        else:
            done = step(mill, state)
            moves.append((state, None, done[1]))
            state = done[0]


def run(mill, state, most, bells=None):
    gone = moves_of(mill, state, most, bells)
    return (gone[0], [end for ahead, k, end in gone[1] if end is not None])
