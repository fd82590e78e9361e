"""Lays of long makes, and their terms."""

from twomakes.errors import NoLay

# width, depth, slow, spread, room, queue, look, ebb
GREATEST = (4, 8, 9, 5, 4, 4, 4, 4)


def lay_of(numbers):
    if len(numbers) != len(GREATEST):
        raise NoLay("a lay has eight numbers")
    for number, greatest in zip(numbers, GREATEST):
        if not 1 <= number <= greatest:
            raise NoLay("a number of a lay is out of its bounds")
    return tuple(numbers)


def terms_of(lay):
    width = lay[0]
    slow = lay[2]
    spread = lay[3]
    look = lay[6]
    return (width, lay[4], lay[5], look * width, slow + spread - 1)
