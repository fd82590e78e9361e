"""A diary held beside the plain make, event by event."""

from twomakes.mills import is_slow, spot_written, spots_read
from twomakes.plain import bell, rests, step
from twomakes.rules import bells_waiting
from twomakes.things import thing_of


class Holder:
    def __init__(self, mill, state, rings, terms):
        self.mill = mill
        self.state = state
        self.rings = list(rings)
        self.terms = terms
        self.width = terms[0]
        self.room = terms[1]
        self.queue = terms[2]
        self.patience = terms[3]
        self.longest = terms[4]
        self.beat = 0
        # how many events and ends were taken up, and how many ends of the last beat
        self.events = 0
        self.ends = 0
        self.ends_of_beat = 0
        self.pressed = 0
        self.taken = []
        # (n, spot, worth, beat of the end) and (n, cell, worth), both by rising n
        self.owed = []
        self.laid = []
        self.cause = None

    def tell(self, event):
        if self.cause is None:
            self.cause = self.first_broken(event)
            if self.cause is None:
                self.take_up(event)
        return self.cause

    def first_broken(self, event):
        beat = event[1]
        if beat < self.beat:
            return "beat"
        if any([told + self.longest < beat for n, spot, worth, told in self.owed]):
            return "overdue"
        if event[0] == "end":
            return self.broken_by_end(event)
        if event[0] == "late":
            return self.broken_by_late(event)
        if event[0] == "down":
            return self.broken_by_down(event)
        return self.broken_by_bell(event)

    def broken_by_end(self, event):
        beat = event[1]
        if rests(self.mill, self.state):
            return "rest"
        if event[2] != self.state[0]:
            return "place"
        if self.ends_at(beat) >= self.width:
            return "crowd"
        if self.is_pressed(beat) and self.pressed >= self.patience:
            return "bell"
        row = self.row_now()
        if any([spot in spots_read(row) or spot == spot_written(row) for n, spot, worth, told in self.owed]):
            return "ahead"
        return self.broken_by_wrote(row, event[3])

    def broken_by_wrote(self, row, wrote):
        right = step(self.mill, self.state)[1][1]
        if thing_of(wrote) != thing_of(right):
            return "thing"
        if wrote is None:
            return None
        is_owed = wrote[2] is None
        if is_owed and not is_slow(row):
            return "owed"
        if not is_owed and wrote[2] != right[2]:
            return "worth"
        if is_owed and len(self.owed) >= self.room:
            return "room"
        if wrote[0] == "cell" and len(self.laid) >= self.queue:
            return "room"
        return None

    def broken_by_late(self, event):
        found = [worth for n, spot, worth, told in self.owed if n == event[2]]
        if len(found) == 0:
            return "stray"
        return None if found[0] == event[3] else "worth"

    def broken_by_down(self, event):
        if len(self.laid) == 0 or self.laid[0][0] != event[2]:
            return "stray"
        if self.laid[0][1] != event[3]:
            return "thing"
        return None if self.laid[0][2] == event[4] else "worth"

    def broken_by_bell(self, event):
        waiting = self.waiting_by(event[1])
        if event[2] not in waiting:
            return "stray"
        if self.state[3]:
            return "shut"
        return None if waiting[0] == event[2] else "order"

    def row_now(self):
        return self.mill[0][self.state[0]]

    # A rising list, so that the least bell stands first.
    def waiting_by(self, beat):
        return bells_waiting(self.rings, self.taken, beat)

    def is_pressed(self, beat):
        return not self.state[3] and len(self.waiting_by(beat)) > 0

    # Beats never fall, so that only the last one can have ends already.
    def ends_at(self, beat):
        return self.ends_of_beat if beat == self.beat else 0

    def take_up(self, event):
        beat = event[1]
        self.ends_of_beat = self.ends_at(beat)
        if event[0] == "end":
            self.take_end(beat, event[3])
        elif event[0] == "late":
            self.owed = [one for one in self.owed if one[0] != event[2]]
        elif event[0] == "down":
            self.laid = self.laid[1:]
        else:
            self.take_bell(event[2])
        self.beat = beat
        self.events += 1

    def take_end(self, beat, wrote):
        self.pressed = self.pressed + 1 if self.is_pressed(beat) else 0
        done = step(self.mill, self.state)
        right = done[1][1]
        if wrote is not None and wrote[2] is None:
            self.owed.append((self.ends, right[1], right[2], beat))
        elif wrote is not None and wrote[0] == "cell":
            self.laid.append((self.ends, right[1], right[2]))
        self.state = done[0]
        self.ends += 1
        self.ends_of_beat += 1

    def take_bell(self, k):
        self.state = bell(self.mill, self.state, k)
        self.taken.append(k)
        self.pressed = 0

    def state_now(self):
        return self.state

    def owes(self):
        return [(n, spot, worth) for n, spot, worth, told in self.owed]

    def lies(self):
        return list(self.laid)

    def rings_now(self):
        return self.waiting_by(self.beat)

    def all_over(self):
        if not rests(self.mill, self.state) or len(self.owed) > 0 or len(self.laid) > 0:
            return False
        return not self.is_pressed(self.beat)

    def parted(self):
        return None if self.cause is None else (self.events, self.cause)

    def way_on(self, m):
        other = self.twin()
        way = []
        while len(way) < m and not other.all_over():
            event = other.event_on()
            other.tell(event)
            way.append(event)
        return way

    # As things stand behind what was taken up: no parting goes over.
    def twin(self):
        other = Holder(self.mill, self.state, self.rings, self.terms)
        other.beat = self.beat
        other.events = self.events
        other.ends = self.ends
        other.ends_of_beat = self.ends_of_beat
        other.pressed = self.pressed
        other.taken = list(self.taken)
        other.owed = list(self.owed)
        other.laid = list(self.laid)
        return other

    # What is owed or waits comes first, in the last beat, where nothing is overdue
    # yet; and a bell goes ahead of an end. So an end here finds nothing that it
    # could break, however little patience or room there is.
    def event_on(self):
        if len(self.owed) > 0:
            return ("late", self.beat, self.owed[0][0], self.owed[0][2])
        if len(self.laid) > 0:
            return ("down", self.beat, self.laid[0][0], self.laid[0][1], self.laid[0][2])
        beat = self.beat if self.ends_of_beat < self.width else self.beat + 1
        if self.is_pressed(beat):
            return ("bell", beat, self.waiting_by(beat)[0])
        done = step(self.mill, self.state)
        return ("end", beat, done[1][0], done[1][1])


def parting(mill, state, rings, terms, diary):
    holder = Holder(mill, state, rings, terms)
    for event in diary:
        if holder.tell(event) is not None:
            return holder.parted()
    return None
