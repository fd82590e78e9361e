"""Promises [4] and [19] to [23] for many diaries, right and wrong, beside a second writing of the rules."""

import unittest
from random import Random

from helper import some_mill, some_pairs, some_state, some_terms, some_worth
from twomakes.holder import Holder, parting
from twomakes.mills import is_slow, spot_written, spots_read
from twomakes.plain import bell, rests, step

MANY = 800


class Words:
    """All that [19] speaks of, worked out anew from the events that were taken up, and the rules of [20]."""

    def __init__(self, mill, state, rings, terms, events):
        self.mill, self.rings, self.events = mill, rings, events
        self.width, self.room, self.queue, self.patience, self.longest = terms
        self.states = [state]
        self.wrote = []
        self.ends = []
        for event in events:
            if event[0] == "end":
                state, (_, wrote) = step(mill, state)
                self.wrote.append(wrote)
                self.ends.append(event)
            elif event[0] == "bell":
                state = bell(mill, state, event[2])
            self.states.append(state)
        self.state = state
        late = [event[2] for event in events if event[0] == "late"]
        down = [event[2] for event in events if event[0] == "down"]
        self.owed = [
            n for n, event in enumerate(self.ends)
            if event[3] is not None and event[3][2] is None and n not in late
        ]
        self.laid = [
            n for n, event in enumerate(self.ends)
            if event[3] is not None and event[3][0] == "cell" and n not in down
        ]
        self.beat = events[-1][1] if events else 0

    def waiting(self, beat, events=None):
        taken = [event[2] for event in (self.events if events is None else events) if event[0] == "bell"]
        return sorted(
            k for k in range(len(self.mill[1]))
            if len([1 for at, rung in self.rings if rung == k and at <= beat]) > taken.count(k)
        )

    def is_pressed(self, place):
        event = self.events[place]
        return not self.states[place][3] and self.waiting(event[1], self.events[:place]) != []

    def count(self):
        count = 0
        for place, event in enumerate(self.events):
            if event[0] == "bell":
                count = 0
            elif event[0] == "end":
                count = count + 1 if self.is_pressed(place) else 0
        return count

    def rules(self, event):
        """The rules of an event in their order, each with whether it is kept; a rule is asked only behind those ahead."""
        kind, beat = event[:2]
        yield "beat", beat >= self.beat
        yield "overdue", all(self.ends[n][1] + self.longest >= beat for n in self.owed)
        yield from getattr(self, "rules_of_" + kind)(beat, *event[2:])

    def rules_of_end(self, beat, place, wrote):
        yield "rest", not rests(self.mill, self.state)
        yield "place", place == self.state[0]
        yield "crowd", len([1 for event in self.ends if event[1] == beat]) < self.width
        pressed = not self.state[3] and self.waiting(beat) != []
        yield "bell", not pressed or self.count() < self.patience
        row = self.mill[0][place]
        touched = spots_read(row) + [spot_written(row)]
        yield "ahead", not [n for n in self.owed if self.wrote[n][1] in touched]
        right = step(self.mill, self.state)[1][1]
        yield "thing", (wrote and wrote[:2]) == (right and right[:2])
        owed = wrote is not None and wrote[2] is None
        yield "owed", not owed or is_slow(row)
        yield "worth", owed or wrote == right
        yield "room", not owed or len(self.owed) < self.room
        yield "room", row[0] != "lay" or len(self.laid) < self.queue

    def rules_of_late(self, beat, n, worth):
        yield "stray", n in self.owed
        yield "worth", worth == self.wrote[n][2]

    def rules_of_down(self, beat, n, at, worth):
        yield "stray", n in self.laid[:1]
        yield "thing", at == self.wrote[n][1]
        yield "worth", worth == self.wrote[n][2]

    def rules_of_bell(self, beat, k):
        yield "stray", k in self.waiting(beat)
        yield "shut", not self.state[3]
        yield "order", k == min(self.waiting(beat))

    def cause(self, event):
        for rule, kept in self.rules(event):
            if not kept:
                return rule
        return None

    def told(self):
        over = rests(self.mill, self.state) and self.owed == [] and self.laid == []
        over = over and (self.state[3] or self.waiting(self.beat) == [])
        return (
            self.state, [(n, *self.wrote[n][1:]) for n in self.owed], [(n, *self.wrote[n][1:]) for n in self.laid],
            self.waiting(self.beat), over,
        )


def some_event(dice, words):
    """An event near to one that could come: perhaps right, perhaps wrong in something."""
    def near(number):
        return number + dice.choice((0,) * 12 + (1, -1))

    beat = words.beat + dice.choice((0, 0, 0, 0, 1, 1, 2, 3, -1 if dice.random() < 0.1 else 0))
    kind = dice.choice(("end", "end", "end", "late", "down", "bell"))
    if kind == "late":
        n = near(dice.choice(words.owed)) if words.owed else dice.randrange(-1, 3)
        worth = words.wrote[n][2] if 0 <= n < len(words.wrote) and words.wrote[n] else some_worth(dice)
        return (kind, beat, n, near(worth))
    if kind == "down":
        if not words.laid:
            return (kind, beat, dice.randrange(-1, 3), 0, 0)
        n = words.laid[0] if dice.random() < 0.9 else dice.choice(words.laid)
        return (kind, beat, near(n), near(words.wrote[n][1]), near(words.wrote[n][2]))
    if kind == "bell":
        waiting = words.waiting(beat)
        return (kind, beat, near(dice.choice(waiting)) if waiting else dice.randrange(-1, 4))
    if rests(words.mill, words.state):
        return (kind, beat, words.state[0], None)
    place, wrote = step(words.mill, words.state)[1]
    if wrote is None:
        return (kind, beat, near(place), dice.choice((None,) * 12 + (("spot", 1, 0), ("cell", 1, 0))))
    if wrote[0] == "spot" and dice.random() < 0.5 and (is_slow(words.mill[0][place]) or dice.random() < 0.1):
        return (kind, beat, near(place), ("spot", near(wrote[1]), None))
    return (kind, beat, near(place), (wrote[0], near(wrote[1]), near(wrote[2])))


class Many(unittest.TestCase):
    def setUp(self):
        self.causes = {}

    def hold(self, mill, state, rings, terms, dice):
        """Events that keep the rules are gone on with; of each wrong one on the way the first broken rule is told."""
        taken = []
        for _ in range(dice.choice((5, 20, 40))):
            words = Words(mill, state, rings, terms, taken)
            event = some_event(dice, words)
            cause = words.cause(event)
            self.causes[(event[0], cause)] = self.causes.get((event[0], cause), 0) + 1
            self.assertEqual(
                parting(mill, state, rings, terms, taken + [event]), None if cause is None else (len(taken), cause)
            )
            holder = Holder(mill, state, rings, terms)
            for ahead in taken:
                self.assertIsNone(holder.tell(ahead))
            told = (holder.state_now(), holder.owes(), holder.lies(), holder.rings_now(), holder.all_over())
            self.assertEqual(told, words.told())
            self.assertEqual(holder.tell(event), cause)
            if cause is None:
                taken.append(event)
        return taken

    def hold_way(self, mill, state, rings, terms, taken, m):
        holder = Holder(mill, state, rings, terms)
        for event in taken:
            holder.tell(event)
        way = holder.way_on(m)
        for place, event in enumerate(way):
            self.assertIsNone(Words(mill, state, rings, terms, taken + way[:place]).cause(event))
        self.assertTrue(len(way) == m or Words(mill, state, rings, terms, taken + way).told()[-1])

    def test_diaries_and_ways_on(self):
        dice = Random("held")
        for _ in range(MANY):
            mill = some_mill(dice)
            state, rings, terms = some_state(dice, mill), some_pairs(dice, mill, 12), some_terms(dice)
            with self.subTest(mill=mill, state=state, rings=rings, terms=terms):
                taken = self.hold(mill, state, rings, terms, dice)
                self.hold_way(mill, state, rings, terms, taken, dice.choice((0, 1, 4, 12)))
        rules = {
            "end": ("beat", "overdue", "rest", "place", "crowd", "bell", "ahead", "thing", "owed", "worth", "room"),
            "late": ("beat", "overdue", "stray", "worth"),
            "down": ("beat", "overdue", "stray", "thing", "worth"),
            "bell": ("beat", "overdue", "stray", "shut", "order"),
        }
        for kind, causes in rules.items():
            for cause in causes + (None,):
                self.assertGreater(self.causes.get((kind, cause), 0), 0, (kind, cause))


if __name__ == "__main__":
    unittest.main()
