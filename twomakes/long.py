"""The long make: beat by beat, with inner rows, late worths and laid worths that wait."""

from twomakes.mills import is_slow, spot_written, spots_read, wrapped
from twomakes.rules import (
    ask_bells, bells_waiting, is_next_due, is_shut_behind, kept_behind, place_behind, what_it_writes,
)


class RungBells:
    def __init__(self, rings, look):
        self.rings = rings
        self.look = look
        self.taken = []

    def bell_now(self, beat, ends, shut):
        if shut or beat % self.look != 0:
            return None
        return min(bells_waiting(self.rings, self.taken, beat), default=None)

    def note_taken(self, k):
        self.taken.append(k)

    def keeps_rows(self, ends, shut):
        return False

    def none_to_come(self, ends, shut):
        return shut or len(self.taken) == len(self.rings)


class LedBells:
    def __init__(self, bells):
        self.bells = bells
        self.taken = []

    def bell_now(self, beat, ends, shut):
        if is_next_due(self.bells, len(self.taken), ends, shut):
            return self.bells[len(self.taken)][1]
        return None

    def note_taken(self, k):
        self.taken.append(k)

    def keeps_rows(self, ends, shut):
        return is_next_due(self.bells, len(self.taken), ends, shut)

    def none_to_come(self, ends, shut):
        return not self.keeps_rows(ends, shut)


class LongMake:
    def __init__(self, mill, state, lay, caller, slips):
        self.rows = mill[0]
        self.leads = mill[1]
        self.caller = caller
        self.slips = slips
        self.width = lay[0]
        self.depth = lay[1]
        self.slow = lay[2]
        self.spread = lay[3]
        self.room = lay[4]
        self.queue = lay[5]
        self.ebb = lay[7]
        self.place = state[0]
        self.spots = list(state[1])
        self.cells = list(state[2])
        self.shut = state[3]
        self.kept = state[4]
        self.inner = []
        self.next_in = state[0]
        # (beat when due, n, spot, worth) and (n, cell, worth), both by rising n
        self.owed = []
        self.laid = []
        self.beat = 0
        self.ends = 0
        self.diary = []
        self.panes = []

    def run_on(self, most):
        while self.beat < most and not self.is_over():
            self.go_through_beat()
        state = (self.place, tuple(self.spots), tuple(self.cells), self.shut, self.kept)
        return (state, self.diary, self.panes)

    def is_over(self):
        if self.place != len(self.rows) or len(self.owed) > 0 or len(self.laid) > 0:
            return False
        return self.caller.none_to_come(self.ends, self.shut)

    def go_through_beat(self):
        self.land_owed()
        self.let_down()
        self.take_bell()
        self.end_rows()
        self.take_rows_in()
        self.panes.append(tuple(self.inner))
        self.beat += 1

    def land_owed(self):
        for due, n, spot, worth in self.owed:
            if due <= self.beat:
                self.spots[spot] = worth
                self.diary.append(("late", self.beat, n, worth))
        self.owed = [one for one in self.owed if one[0] > self.beat]

    def let_down(self):
        if self.beat % self.ebb != 0 or len(self.laid) == 0:
            return
        first = self.laid.pop(0)
        self.cells[first[1]] = first[2]
        self.diary.append(("down", self.beat, first[0], first[1], first[2]))

    def take_bell(self):
        k = self.caller.bell_now(self.beat, self.ends, self.shut)
        if k is None:
            return
        self.caller.note_taken(k)
        self.kept = self.place
        self.place = self.leads[k]
        self.shut = True
        self.throw_inner()
        self.diary.append(("bell", self.beat, k))

    def throw_inner(self):
        self.inner = []
        self.next_in = self.place

    def end_rows(self):
        for turn in range(self.width):
            if len(self.inner) == 0 or self.must_wait(self.rows[self.inner[0]]):
                return
            self.end_first()

    def must_wait(self, row):
        if is_slow(row) and len(self.owed) >= self.room:
            return True
        if row[0] == "lay" and len(self.laid) >= self.queue:
            return True
        if any([spot in spots_read(row) or spot == spot_written(row) for due, n, spot, worth in self.owed]):
            return True
        return self.caller.keeps_rows(self.ends, self.shut)

    def end_first(self):
        place = self.inner.pop(0)
        row = self.rows[place]
        wrote = self.slipped(what_it_writes(row, self.spots, self.seen_cells()))
        self.place = place_behind(row, place, self.spots, self.kept)
        self.shut = is_shut_behind(row, self.shut)
        self.kept = kept_behind(row, self.kept)
        self.diary.append(("end", self.beat, place, self.put_away(row, wrote)))
        self.ends += 1
        guessed = self.next_in if len(self.inner) == 0 else self.inner[0]
        if guessed != self.place:
            self.throw_inner()

    # A waiting worth hides its cell from takes, the last laid one the others.
    def seen_cells(self):
        cells = list(self.cells)
        for n, at, worth in self.laid:
            cells[at] = worth
        return cells

    def slipped(self, wrote):
        if wrote is None:
            return None
        added = sum([add for n, add in self.slips if n == self.ends])
        return (wrote[0], wrote[1], wrapped(wrote[2] + added))

    # Tells what the end tells: an owed worth is not told yet.
    def put_away(self, row, wrote):
        if wrote is None:
            return None
        at = wrote[1]
        worth = wrote[2]
        if wrote[0] == "cell":
            self.laid.append((self.ends, at, worth))
            return wrote
        if is_slow(row):
            due = self.beat + self.slow + self.ends % self.spread
            self.owed.append((due, self.ends, at, worth))
            return ("spot", at, None)
        self.spots[at] = worth
        return wrote

    def take_rows_in(self):
        for turn in range(self.width):
            if len(self.inner) >= self.depth or not self.has_next_in():
                return
            self.inner.append(self.next_in)
            self.next_in = self.place_guessed(self.next_in)

    def has_next_in(self):
        return self.next_in is not None and self.next_in < len(self.rows)

    def place_guessed(self, place):
        row = self.rows[place]
        if row[0] == "home":
            return None
        if row[0] == "go" and row[2] <= place:
            return row[2]
        return place + 1


def rung_run(mill, state, lay, most, rings=None, slips=None):
    rung = [] if rings is None else rings
    ask_bells(mill, rung)
    make = LongMake(mill, state, lay, RungBells(rung, lay[6]), [] if slips is None else slips)
    return make.run_on(most)


def led_run(mill, state, lay, most, bells=None, slips=None):
    listed = [] if bells is None else bells
    ask_bells(mill, listed)
    make = LongMake(mill, state, lay, LedBells(listed), [] if slips is None else slips)
    return make.run_on(most)
