"""What a row does and which bells can be taken: what all makes of a mill have in common."""

from twomakes.errors import NoBell
from twomakes.mills import cell_at, spot_written, wrapped


def worth_got(row, spots, cells):
    word = row[0]
    if word == "put":
        return row[2]
    one = spots[row[2]]
    if word == "take":
        return cells[cell_at(one, row[3])]
    other = spots[row[3]]
    if word == "sum":
        return wrapped(one + other)
    if word == "mul":
        return wrapped(one * other)
    return 1 if one < other else 0


def what_it_writes(row, spots, cells):
    if row[0] == "lay":
        return ("cell", cell_at(spots[row[2]], row[3]), spots[row[1]])
    spot = spot_written(row)
    if spot is None:
        return None
    return ("spot", spot, worth_got(row, spots, cells))


def place_behind(row, place, spots, kept):
    if row[0] == "go" and spots[row[1]] != 0:
        return row[2]
    if row[0] == "home" and kept is not None:
        return kept
    return place + 1


def is_shut_behind(row, shut):
    if row[0] == "shut":
        return True
    if row[0] in ("open", "home"):
        return False
    return shut


def kept_behind(row, kept):
    return None if row[0] == "home" else kept


def is_bell(mill, k):
    return 0 <= k < len(mill[1])


# Rings and bells at places alike have the bell behind a number.
def ask_bells(mill, pairs):
    for number, k in pairs:
        if not is_bell(mill, k):
            raise NoBell("the mill has no such bell")


def is_next_due(bells, taken, ends, shut):
    return not shut and taken < len(bells) and bells[taken][0] <= ends


def bells_rung(rings, beat):
    return [k for rung, k in rings if rung <= beat]


def bells_waiting(rings, taken, beat):
    rung = bells_rung(rings, beat)
    return [k for k in sorted(set(rung)) if rung.count(k) > taken.count(k)]
