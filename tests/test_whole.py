"""Promises [4] and [28] for many mills: makes without slips are right and not apart, slips part where they are told."""

import unittest
from random import Random

from helper import cases, some_lay
from twomakes.holder import Holder, parting
from twomakes.lays import terms_of
from twomakes.like import apart, like_bells, own_rings, plain_diary, settled
from twomakes.long import led_run, rung_run
from twomakes.plain import run

PLAIN_TERMS = (1, 0, 1, 0, 0)
MANY = list(cases(500, "whole"))


def diaries():
    """Of each case the diary of a rung, a led and the plain make, with the rings and terms that are its own."""
    for mill, state, lay, most, rings, bells in MANY:
        for make, told in (("rung", rung_run(mill, state, lay, most, rings)),
                           ("led", led_run(mill, state, lay, most, bells))):
            own = rings if make == "rung" else own_rings(told[1])
            yield make, mill, state, own, terms_of(lay), told[1], told[0] if len(told[2]) < most else None
        diary = plain_diary(mill, state, most, bells)
        yield "plain", mill, state, own_rings(diary), PLAIN_TERMS, diary, run(mill, state, most, bells)[0]


ALL = list(diaries())


def told_by(diary, n):
    """The place of the event that tells the worth of end n, if one does."""
    ends = [place for place, event in enumerate(diary) if event[0] == "end"]
    if n >= len(ends) or diary[ends[n]][3] is None:
        return None
    if diary[ends[n]][3][2] is not None:
        return ends[n]
    return next((place for place, event in enumerate(diary) if event[0] == "late" and event[2] == n), None)


class WithoutSlips(unittest.TestCase):
    def test_right(self):
        events = 0
        for make, mill, state, rings, terms, diary, _ in ALL:
            with self.subTest(make=make, mill=mill, state=state, terms=terms, rings=rings):
                self.assertIsNone(parting(mill, state, rings, terms, diary))
            events += len(diary)
        self.assertGreater(events, 10000)

    def test_the_plain_run_tells_the_settled_ends(self):
        for make, mill, state, _, terms, diary, over in ALL:
            ends = settled(diary)
            behind, plain = run(mill, state, len(ends), like_bells(diary))
            with self.subTest(make=make, mill=mill, state=state, terms=terms):
                self.assertEqual(len(plain), len(ends))
                for one, other in zip(ends, plain):
                    owed = one[1] is not None and one[1][2] is None
                    self.assertEqual(one, (other[0], other[1][:2] + (None,)) if owed else other)
                if over is not None:
                    self.assertEqual(behind, over)

    def test_a_make_led_by_the_like_bells_is_not_apart(self):
        dice = Random("not apart")
        both = 0
        for make, mill, state, _, _, diary, _ in ALL:
            for lay in (some_lay(dice), (1,) * 8, (4, 8, 9, 5, 4, 4, 4, 4)):
                other = led_run(mill, state, lay, 120, like_bells(diary))[1]
                with self.subTest(make=make, mill=mill, state=state, lay=lay):
                    self.assertIsNone(apart(diary, other))
                    self.assertIsNone(apart(other, diary))
                both += min(len(settled(diary)), len(settled(other)))
            plain = plain_diary(mill, state, len(settled(diary)), like_bells(diary))
            self.assertIsNone(apart(diary, plain))
        self.assertGreater(both, 20000)

    def test_what_stands_ahead_can_be_gone_on_with(self):
        dice = Random("gone on with")
        for make, mill, state, rings, terms, diary, _ in ALL[::5]:
            ahead = diary[:dice.randrange(len(diary) + 1)]
            holder = Holder(mill, state, rings, terms)
            for event in ahead:
                holder.tell(event)
            way = holder.way_on(30)
            with self.subTest(make=make, mill=mill, state=state, terms=terms):
                self.assertIsNone(parting(mill, state, rings, terms, ahead + way))
                for event in way:
                    self.assertIsNone(holder.tell(event))
                self.assertTrue(len(way) == 30 or holder.all_over())


class WithASlip(unittest.TestCase):
    def hold(self, make, mill, state, lay, most, pairs, n, add):
        """Whether the slip changed a worth that was told: then the diary parts just there."""
        wrong = make(mill, state, lay, most, pairs, [(n, add)])[1]
        rings = pairs if make == rung_run else own_rings(wrong)
        place = told_by(wrong, n) if add % 2 ** 32 != 0 else None
        with self.subTest(make=make.__name__, mill=mill, state=state, lay=lay, pairs=pairs, n=n, add=add):
            told = parting(mill, state, rings, terms_of(lay), wrong)
            self.assertEqual(told, None if place is None else (place, "worth"))
        return place is not None

    def test_it_parts_where_the_worth_is_told(self):
        dice = Random("slips part")
        parted = 0
        for mill, state, lay, most, rings, bells in MANY:
            n = dice.choice((0, 1, 2, 5, dice.randrange(40)))
            add = dice.choice((1, -1, 2 ** 31, 2 ** 32, 10 ** 59, dice.randrange(2 ** 32)))
            parted += self.hold(rung_run, mill, state, lay, most, rings, n, add)
            parted += self.hold(led_run, mill, state, lay, most, bells, n, add)
        self.assertGreater(parted, 100)


if __name__ == "__main__":
    unittest.main()
