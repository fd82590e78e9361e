"""What several tests need: lays, terms and events in few words; many mills and what goes with them."""

import random

from twomakes.lays import lay_of
from twomakes.mills import mill_of

GREATEST_WORTH = 4294967295
WORDS = (
    "put", "put", "sum", "mul", "mul", "less", "take", "take", "lay", "lay", "go", "go", "shut", "open", "home",
)
GREATEST_OF_LAY = (4, 8, 9, 5, 4, 4, 4, 4)
LAY = ("width", "depth", "slow", "spread", "room", "queue", "look", "ebb")
TERMS = {"width": 1, "room": 0, "queue": 1, "patience": 0, "longest": 0}
WIDE = {"width": 4, "depth": 8}


def lay(**numbers):
    return lay_of([numbers.get(name, 1) for name in LAY])


def terms(**numbers):
    return tuple({**TERMS, **numbers}.values())


def end(beat, place, wrote=None):
    return ("end", beat, place, wrote)


def spot(d, worth=None):
    return ("spot", d, worth)


def cell(at, worth):
    return ("cell", at, worth)


def late(beat, n, worth):
    return ("late", beat, n, worth)


def down(beat, n, at, worth):
    return ("down", beat, n, at, worth)


def bell(beat, k):
    return ("bell", beat, k)


def some_worth(dice):
    return dice.choice((0, 0, 1, 2, 3, 15, 16, 65535, 65536, GREATEST_WORTH, dice.randrange(GREATEST_WORTH)))


def some_row(dice, count):
    word = dice.choice(WORDS)
    spots = [dice.randrange(dice.choice((3, 8))) for _ in range(3)]
    if word == "put":
        return (word, spots[0], some_worth(dice))
    if word in ("sum", "mul", "less"):
        return (word, *spots)
    if word in ("take", "lay"):
        return (word, spots[0], spots[1], dice.choice((0, 1, dice.randrange(16))))
    if word == "go":
        return (word, spots[0], dice.randrange(count + 1))
    return (word,)


def some_mill(dice):
    count = dice.choice((1, 2, 3, 5, 8, 12, 20, 40))
    bells = [dice.randrange(count + 1) for _ in range(dice.choice((0, 1, 1, 2, 4)))]
    return mill_of([some_row(dice, count) for _ in range(count)], bells)


def some_state(dice, mill):
    count = len(mill[0])
    return (
        dice.choice((0, 0, 0, dice.randrange(count + 1))),
        tuple(some_worth(dice) for _ in range(8)),
        tuple(some_worth(dice) for _ in range(16)),
        dice.choice((False, False, True)),
        dice.choice((None, None, dice.randrange(count + 1))),
    )


def some_lay(dice):
    return lay_of([dice.choice((1, most, 1 + dice.randrange(most))) for most in GREATEST_OF_LAY])


def some_terms(dice):
    return terms(
        width=dice.choice((1, 1, 2, 3)), room=dice.choice((0, 1, 2, 5)), queue=dice.choice((1, 1, 2, 3)),
        patience=dice.choice((0, 0, 1, 2, 5)), longest=dice.choice((0, 1, 2, 4)),
    )


def some_thing(dice, spots=8, cells=16):
    kind, most = dice.choice((("spot", spots), ("cell", cells)))
    return (kind, dice.randrange(most))


def some_walk(dice, most, spots=8, cells=16):
    """Steps of any form, whatever mill could have walked them."""
    walk = []
    for _ in range(most):
        things = list(dict.fromkeys(some_thing(dice, spots, cells) for _ in range(dice.randrange(4))))
        wrote = dice.choice((None, some_thing(dice, spots, cells), some_thing(dice, spots, cells)))
        walk.append((dice.randrange(-1, 5), things, wrote))
    return walk


def some_pairs(dice, mill, most):
    """Pairs of a number and a bell of the mill, in any order."""
    if len(mill[1]) == 0:
        return []
    return [(dice.randrange(most), dice.randrange(len(mill[1]))) for _ in range(dice.choice((0, 1, 3, 8)))]


def some_bells(dice, mill, most):
    """Bells at places: the numbers never fall, the bells come as they come."""
    return sorted(some_pairs(dice, mill, most), key=lambda pair: pair[0])


def cases(count, seed):
    """That many tuples (mill, state, lay, beats, rings, bells)."""
    dice = random.Random(seed)
    for _ in range(count):
        mill = some_mill(dice)
        yield (
            mill, some_state(dice, mill), some_lay(dice), dice.choice((0, 1, 7, 30, 60, 120)),
            some_pairs(dice, mill, 40), some_bells(dice, mill, 40),
        )


def like_bells(diary):
    """The bells of a diary at places: how many ends stand ahead of each."""
    bells, ends = [], 0
    for event in diary:
        if event[0] == "end":
            ends += 1
        elif event[0] == "bell":
            bells.append((ends, event[2]))
    return bells


def settled(diary):
    """The ends of a diary as (place, wrote), with owed worths put in where they have landed."""
    ends = []
    for event in diary:
        if event[0] == "end":
            ends.append((event[2], event[3]))
        elif event[0] == "late":
            place, (kind, at, _) = ends[event[2]]
            ends[event[2]] = (place, (kind, at, event[3]))
    return ends
