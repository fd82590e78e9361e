"""Promises [4], [28], [38] and [40] from a bench's rows on, for many mills, lays, rings and slips."""

import copy
import unittest
from random import Random

from helper import some_lay, some_mill, some_pairs, some_worth
from twomakes.bench import Bench
from twomakes.flows import walk_of
from twomakes.holder import parting
from twomakes.holds import least_holds
from twomakes.lays import terms_of
from twomakes.like import apart, like_bells, settled
from twomakes.long import led_run, rung_run
from twomakes.plain import run, start
from twomakes.suspects import first_seen, suspects
from twomakes.texts import show_mill

MAKES = ("one", "two")


def write_thing(thing):
    return "next" if thing[0] == "next" else thing[0][0] + str(thing[1])


class Table:
    """What a bench is told, kept beside it as the modules' own values, and what it must answer by them."""

    def __init__(self, dice):
        self.mill = some_mill(dice)
        self.spots = [some_worth(dice) for _ in range(dice.choice((0, 3, 8)))]
        self.cells = [some_worth(dice) for _ in range(dice.choice((0, 3, 16)))]
        self.rings = some_pairs(dice, self.mill, 20)
        self.lays = {make: some_lay(dice) for make in MAKES}
        self.slips = {make: [] for make in MAKES}

    def rows(self):
        yield "mill " + show_mill(self.mill)
        yield " ".join(["spots", *map(str, self.spots)])
        yield " ".join(["cells", *map(str, self.cells)])
        for make in MAKES:
            yield " ".join(["lay", make, *map(str, self.lays[make])])
            for n, add in self.slips[make]:
                yield f"slip {make} {n} {add}"
        for beat, k in self.rings:
            yield f"ring {beat} {k}"

    def bench(self):
        bench = Bench()
        for row in self.rows():
            assert bench.say(row) == "ok", row
        return bench

    def state(self):
        return start(self.spots, self.cells)

    def diary(self, make, m):
        return rung_run(self.mill, self.state(), self.lays[make], m, self.rings, self.slips[make])[1]

    def ends(self, make, m):
        words = []
        for place, wrote in settled(self.diary(make, m)):
            worth = "" if wrote is None else "owed" if wrote[2] is None else str(wrote[2])
            words.append(str(place) if wrote is None else f"{place}/{write_thing(wrote)}/{worth}")
        return " ".join(words) or "none"

    def bells(self, make, m):
        return " ".join(f"{after}:{k}" for after, k in like_bells(self.diary(make, m))) or "none"

    def hold(self, make, m):
        told = parting(self.mill, self.state(), self.rings, terms_of(self.lays[make]), self.diary(make, m))
        return "right" if told is None else f"{told[0]} {told[1]}"

    def side(self, m):
        diary = self.diary("one", m)
        other = led_run(self.mill, self.state(), self.lays["two"], m, like_bells(diary), self.slips["two"])[1]
        told = apart(diary, other)
        return "alike" if told is None else f"{told[0]} {told[1]}"

    def walk(self, m):
        diary = self.diary("one", m)
        count = len([event for event in diary if event[0] == "end"])
        return walk_of(self.mill, self.state(), count, like_bells(diary))

    def least(self, m):
        return " ".join(f"{time}/{write_thing(thing)}" for time, thing in least_holds(self.walk(m))) or "none"

    def seen(self, m):
        diary, walk = self.diary("one", m), self.walk(m)
        plain = run(self.mill, self.state(), len(settled(diary)), like_bells(diary))[1]
        told = first_seen(self.state(), plain, settled(diary), least_holds(walk))
        if told is None:
            return "alike"
        steps = suspects(walk, told) or ["none"]
        return " ".join([str(told[0]), *map(write_thing, told[1]), ":", *map(str, steps)])


class Many(unittest.TestCase):
    def tables(self, count, seed):
        dice = Random(seed)
        for _ in range(count):
            table = Table(dice)
            with self.subTest(rows=list(table.rows())):
                yield dice, table

    def test_each_answer_is_the_modules_own(self):
        for dice, table in self.tables(150, "bench"):
            table.slips = {make: some_slips(dice) for make in MAKES}
            bench = table.bench()
            for m in (0, 1, dice.randrange(25), 25, 60, 100):
                for make in MAKES:
                    self.assertEqual(bench.say(f"ends {make} {m}"), table.ends(make, m))
                    self.assertEqual(bench.say(f"bells {make} {m}"), table.bells(make, m))
                    self.assertEqual(bench.say(f"hold {make} {m}"), table.hold(make, m))
                self.assertEqual(bench.say(f"side {m}"), table.side(m))
                if m <= 25:
                    self.assertEqual(bench.say(f"least {m}"), table.least(m))
                    self.assertEqual(bench.say(f"seen {m}"), table.seen(m))
            self.assertEqual(bench.say("text"), show_mill(table.mill))

    def test_without_slips(self):
        for dice, table in self.tables(150, "bench without slips"):
            bench = table.bench()
            for m in (0, dice.randrange(25), 25, 100):
                self.assertEqual([bench.say(f"hold {make} {m}") for make in MAKES], ["right", "right"])
                self.assertEqual(bench.say(f"side {m}"), "alike")
                self.assertEqual(bench.say(f"seen {min(m, 25)}"), "alike")

    def test_a_slip_that_is_told(self):
        parted = seen = 0
        for dice, table in self.tables(400, "bench with a slip"):
            n = dice.choice((0, 1, 2, 3, 9))
            table.slips["one"] = [(n, dice.choice((1, -1, 2 ** 31, -9999999999)))]
            bench, diary = table.bench(), table.diary("one", 25)
            told = bench.say("hold one 25")
            if told != "right":
                index, cause = told.split(" ")
                event = diary[int(index)]
                ends = len([one for one in diary[:int(index)] if one[0] == "end"])
                self.assertEqual(cause, "worth")
                self.assertIn((event[0], event[2] if event[0] == "late" else ends), (("end", n), ("late", n)))
                parted += 1
            else:
                ends = settled(diary)
                self.assertTrue(len(ends) <= n or ends[n][1] is None or ends[n][1][2] is None)
            told = bench.say("seen 25")
            if told != "alike":
                self.assertIn(str(n), told.partition(" : ")[2].split(" "))
                seen += 1
        self.assertGreater(parted, 50)
        self.assertGreater(seen, 50)

    def test_asked_again_it_answers_the_same(self):
        for dice, table in self.tables(20, "bench again"):
            table.slips = {make: some_slips(dice) for make in MAKES}
            bench = table.bench()
            rows = ["text", "ends one 30", "bells two 30", "hold one 30", "side 30", "least 20", "seen 20"]
            first = [bench.say(row) for row in rows]
            self.assertEqual([bench.say(row) for row in reversed(rows)], first[::-1])
            before = copy.deepcopy(first)
            for row in table.rows():
                bench.say(row)
            self.assertEqual([bench.say(row) for row in rows], before)


def some_slips(dice):
    return [(dice.randrange(10), dice.randrange(-9, 10)) for _ in range(dice.choice((0, 0, 1, 2)))]


if __name__ == "__main__":
    unittest.main()
