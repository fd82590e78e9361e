"""Promises [2], [4] and [15] to [17] for many mills: long makes beside the plain one, and what always holds of them."""

import copy
import unittest
from random import Random

from helper import cases, like_bells, settled, some_lay
from twomakes.long import led_run, rung_run
from twomakes.mills import is_slow, spot_written, spots_read
from twomakes.plain import run
from twomakes.texts import read_mill

MANY = list(cases(500, "alike"))


def both_makes():
    """Each case by a rung make and by a led one: what went in, and what was told."""
    for mill, state, lay, most, rings, bells in MANY:
        yield mill, state, lay, most, rings, rung_run(mill, state, lay, most, rings)
        yield mill, state, lay, most, None, led_run(mill, state, lay, most, bells)


BOTH = list(both_makes())


def owed_and_laid(diary):
    """The owed worths' ends and spots, and the laid worths that wait, behind a diary."""
    owed, laid, n = {}, {}, 0
    for event in diary:
        if event[0] == "end":
            if event[3] is not None and event[3][2] is None:
                owed[n] = event[3][1]
            elif event[3] is not None and event[3][0] == "cell":
                laid[n] = event[3][1:]
            n += 1
        elif event[0] == "late":
            del owed[event[2]]
        elif event[0] == "down":
            del laid[event[2]]
    return owed, laid


class BesideThePlainMake(unittest.TestCase):
    def test_the_same_ends_behind_the_same_bells(self):
        compared = 0
        for mill, state, lay, most, _, (_, diary, _) in BOTH:
            ends = settled(diary)
            plain = run(mill, state, len(ends), like_bells(diary))[1]
            with self.subTest(mill=mill, state=state, lay=lay, most=most):
                self.assertEqual(len(plain), len(ends))
                for one, other in zip(ends, plain):
                    if one[1] is not None and one[1][2] is None:
                        one, other = (one[0], one[1][:2]), (other[0], other[1][:2])
                    self.assertEqual(one, other)
                    compared += 1
        self.assertGreater(compared, 10000)

    def test_the_same_state_but_for_owed_and_waiting_worths(self):
        for mill, state, lay, most, _, (behind, diary, _) in BOTH:
            plain = run(mill, state, len(settled(diary)), like_bells(diary))[0]
            owed, laid = owed_and_laid(diary)
            cells = list(behind[2])
            for at, worth in laid.values():
                cells[at] = worth
            with self.subTest(mill=mill, state=state, lay=lay, most=most):
                self.assertEqual((behind[0], behind[3], behind[4]), (plain[0], plain[3], plain[4]))
                self.assertEqual(tuple(cells), plain[2])
                for spot in range(8):
                    if spot not in owed.values():
                        self.assertEqual(behind[1][spot], plain[1][spot])

    def test_the_same_state_where_the_run_was_over_by_itself(self):
        over = 0
        for mill, state, lay, most, _, (behind, diary, panes) in BOTH:
            if len(panes) < most:
                over += 1
                with self.subTest(mill=mill, state=state, lay=lay, most=most):
                    self.assertEqual(run(mill, state, len(settled(diary)), like_bells(diary))[0], behind)
                    self.assertEqual(owed_and_laid(diary), ({}, {}))
                    self.assertEqual(behind[0], len(mill[0]))
        self.assertGreater(over, 100)

    def test_another_make_that_is_led_by_the_same_bells(self):
        dice = Random("another")
        for mill, state, lay, most, _, (_, diary, _) in BOTH:
            other_lay = some_lay(dice)
            other = led_run(mill, state, other_lay, 120, like_bells(diary))[1]
            with self.subTest(mill=mill, state=state, lay=lay, other_lay=other_lay):
                ends = list(zip(settled(diary), settled(other)))
                for one, another in ends:
                    if None in (one[1] or ())[2:] + (another[1] or ())[2:]:
                        one, another = (one[0], one[1][:2]), (another[0], another[1][:2])
                    self.assertEqual(one, another)
                bells = [[pair for pair in like_bells(told) if pair[0] < len(ends)] for told in (diary, other)]
                self.assertEqual(bells[0], bells[1])

    def test_a_way_back_and_forth(self):
        # a mill with rounds, lates and bells that come to rest by itself, led by its own bells under each width
        mill = read_mill(
            "put 1 6; put 2 4294967295; mul 3 1 1; lay 3 1 0; take 4 1 0; sum 1 1 2; go 1 2; home; "
            "sum 5 5 4; mul 5 5 1; home | 8 9"
        )
        state = (0, (0,) * 8, (0,) * 16, False, None)
        rung = rung_run(mill, state, (2, 4, 3, 2, 2, 2, 3, 2), 120, [(4, 1), (9, 0), (9, 1), (20, 0), (31, 1)])
        self.assertEqual(len(like_bells(rung[1])), 5)
        self.assertLess(len(rung[2]), 120)
        for width in (1, 2, 3, 4):
            for depth in (1, 3, 8):
                for slow in (1, 4):
                    for room, queue, ebb in ((1, 1, 1), (4, 4, 4), (2, 1, 3)):
                        led = led_run(mill, state, (width, depth, slow, 3, room, queue, 1, ebb), 400,
                                      like_bells(rung[1]))
                        self.assertEqual(led[0], rung[0])
                        self.assertEqual(settled(led[1]), settled(rung[1]))
                        self.assertEqual(like_bells(led[1]), like_bells(rung[1]))


class WhatAlwaysHolds(unittest.TestCase):
    def test_fewer_beats_tell_the_beginning(self):
        for mill, state, lay, most, rings, bells in MANY:
            for make, pairs in ((rung_run, rings), (led_run, bells)):
                _, diary, panes = make(mill, state, lay, most, pairs)
                for fewer in (0, min(1, most), most // 2, most):
                    _, early, shown = make(mill, state, lay, fewer, pairs)
                    with self.subTest(mill=mill, lay=lay, most=most, fewer=fewer, make=make.__name__):
                        self.assertEqual(shown, panes[:fewer])
                        self.assertEqual(early, [event for event in diary if event[1] < fewer])

    def test_width_depth_and_panes(self):
        for mill, state, lay, most, _, (_, diary, panes) in BOTH:
            self.assertLessEqual(len(panes), most)
            for beat, pane in enumerate(panes):
                ends = [event for event in diary if event[0] == "end" and event[1] == beat]
                self.assertLessEqual(len(ends), lay[0])
                self.assertLessEqual(len(pane), lay[1])
                before = panes[beat - 1] if beat > 0 else ()
                self.assertEqual(tuple(event[2] for event in ends), before[:len(ends)])

    def test_order_and_times_of_lates_and_downs(self):
        for mill, state, lay, most, _, (_, diary, panes) in BOTH:
            told, lates, downs, laid = [], {}, [], []
            rank = {"late": 0, "down": 1, "bell": 2, "end": 3}
            keys = [(event[1], rank[event[0]]) for event in diary]
            self.assertEqual(keys, sorted(keys))
            for event in diary:
                if event[0] == "end":
                    if event[3] is not None and event[3][0] == "cell":
                        laid.append((len(told), *event[3][1:]))
                    told.append(event)
                elif event[0] == "late":
                    lates[event[2]] = event[1]
                elif event[0] == "down":
                    downs.append(event[2:])
                    self.assertEqual(event[1] % lay[7], 0)
            self.assertEqual(downs, laid[:len(downs)])
            for n, (_, beat, place, wrote) in enumerate(told):
                owes = wrote is not None and wrote[2] is None
                self.assertEqual(owes, is_slow(mill[0][place]))
                due = beat + lay[2] + n % lay[3]
                self.assertEqual(lates.get(n), due if owes and due < len(panes) else None)

    def test_room_queue_and_owed_spots(self):
        for mill, state, lay, most, _, (_, diary, _) in BOTH:
            for at, event in enumerate(diary):
                if event[0] != "end":
                    continue
                owed, laid = owed_and_laid(diary[:at])
                row = mill[0][event[2]]
                touched = spots_read(row) + [spot_written(row)]
                with self.subTest(mill=mill, lay=lay, event=event):
                    self.assertFalse([spot for spot in owed.values() if spot in touched])
                    self.assertTrue(not is_slow(row) or len(owed) < lay[4])
                    self.assertTrue(row[0] != "lay" or len(laid) < lay[5])

    def test_bells_of_rung_makes(self):
        taken = 0
        for mill, state, lay, most, rings, (_, diary, _) in BOTH:
            left = list(rings or [])
            for event in diary:
                if rings is not None and event[0] == "bell":
                    self.assertEqual(event[1] % lay[6], 0)
                    waiting = [ring for ring in left if ring[0] <= event[1]]
                    self.assertEqual(event[2], min(k for _, k in waiting))
                    left.remove(next(ring for ring in waiting if ring[1] == event[2]))
                    taken += 1
        self.assertGreater(taken, 100)

    def test_bells_of_led_makes(self):
        taken = 0
        for mill, state, lay, most, _, bells in MANY:
            diary = led_run(mill, state, lay, most, bells)[1]
            for (ends, k), (after, wanted) in zip(like_bells(diary), bells):
                self.assertEqual(k, wanted)
                self.assertGreaterEqual(ends, after)
                taken += 1
            plain = run(mill, state, len(settled(diary)), bells)[1]
            with self.subTest(mill=mill, state=state, lay=lay, bells=bells):
                self.assertEqual([place for place, _ in settled(diary)], [place for place, _ in plain])
        self.assertGreater(taken, 100)


class NothingChangedOrKept(unittest.TestCase):
    def test_what_is_handed_in_stays(self):
        for mill, state, lay, most, rings, bells in MANY[:150]:
            slips = [(3, 5), (0, -1)]
            handed = copy.deepcopy((mill, state, lay, rings, bells, slips))
            rung_run(mill, state, lay, most, rings, slips)
            led_run(mill, state, lay, most, bells, slips)
            self.assertEqual((mill, state, lay, rings, bells, slips), handed)

    def test_told_lists_are_the_askers_own(self):
        for mill, state, lay, most, rings, bells in MANY[:150]:
            for make, pairs in ((rung_run, rings), (led_run, bells)):
                pairs, slips = list(pairs), [(2, 7)]
                told = make(mill, state, lay, most, pairs, slips)
                first = copy.deepcopy(told)
                again = make(mill, state, lay, most, pairs, slips)
                told[1].clear()
                told[2].append("more")
                self.assertEqual(again, first)
                pairs.clear()
                slips.clear()
                self.assertEqual(again, first)

    def test_the_same_whenever_it_is_asked(self):
        told = [rung_run(mill, state, lay, most, rings) for mill, state, lay, most, rings, _ in MANY[:100]]
        again = [rung_run(mill, state, lay, most, rings) for mill, state, lay, most, rings, _ in reversed(MANY[:100])]
        self.assertEqual(told, again[::-1])


if __name__ == "__main__":
    unittest.main()
