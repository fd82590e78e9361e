"""Promises [2], [22] and [23]: what a Holder tells at any time, and ways on."""

import copy
import unittest
from random import Random

from helper import bell, cases, cell, down, end, late, some_terms, spot, terms
from twomakes.holder import Holder, parting
from twomakes.lays import terms_of
from twomakes.long import rung_run
from twomakes.plain import start
from twomakes.texts import read_mill

FAR = 10 ** 59
ZEROS = (0,) * 8
CELLS = (0,) * 16


def asked(holder):
    return (
        holder.state_now(), holder.owes(), holder.lies(), holder.rings_now(), holder.all_over(), holder.parted(),
    )


def holder_of(text, rings=(), state=None, events=(), **numbers):
    begin = start([], []) if state is None else state
    holder = Holder(read_mill(text), begin, list(rings), terms(**numbers))
    for event in events:
        holder.tell(event)
    return holder


class AtFirst(unittest.TestCase):
    def test_of_a_start(self):
        holder = holder_of("put 1 5 | 0")
        self.assertEqual(asked(holder), (start([], []), [], [], [], False, None))
        self.assertEqual([type(one) for one in asked(holder)], [tuple, list, list, list, bool, type(None)])

    def test_of_any_state(self):
        state = (1, (1, 2, 3, 4, 5, 6, 7, 8), tuple(range(16)), True, 0)
        self.assertEqual(asked(holder_of("put 1 5; home", (), state)), (state, [], [], [], False, None))

    def test_bells_that_wait_by_beat_0(self):
        rings = [(0, 3), (1, 0), (0, 1), (0, 3), (FAR, 2)]
        self.assertEqual(holder_of("home | 0 0 0 0", rings).rings_now(), [1, 3])

    def test_all_over(self):
        for shut in (False, True):
            for rings in ([], [(0, 0)], [(1, 0)]):
                for place in (0, 1):
                    holder = holder_of("home | 0", rings, (place, ZEROS, CELLS, shut, None))
                    over = place == 1 and (shut or rings != [(0, 0)])
                    self.assertIs(holder.all_over(), over)


class BetweenEvents(unittest.TestCase):
    TEXT = "put 1 3; mul 2 1 1; lay 1 0 4; take 3 0 0; lay 2 0 5; home | 5 5"
    RINGS = [(3, 1), (2, 1), (2, 0), (9, 0)]
    BOUNDS = {"width": 3, "room": 2, "queue": 2, "patience": 9, "longest": 5}
    # each event with what is told behind it: place, owed, laid, bells that wait
    GONE = (
        (end(0, 0, spot(1, 3)), 1, [], [], []),
        (end(1, 1, spot(2)), 2, [(1, 2, 9)], [], []),
        (end(2, 2, cell(4, 3)), 3, [(1, 2, 9)], [(2, 4, 3)], [0, 1]),
        (end(2, 3, spot(3)), 4, [(1, 2, 9), (3, 3, 0)], [(2, 4, 3)], [0, 1]),
        (late(3, 1, 9), 4, [(3, 3, 0)], [(2, 4, 3)], [0, 1]),
        (end(3, 4, cell(5, 9)), 5, [(3, 3, 0)], [(2, 4, 3), (4, 5, 9)], [0, 1]),
        (bell(3, 0), 5, [(3, 3, 0)], [(2, 4, 3), (4, 5, 9)], [1]),
        (down(4, 2, 4, 3), 5, [(3, 3, 0)], [(4, 5, 9)], [1]),
        (end(4, 5), 5, [(3, 3, 0)], [(4, 5, 9)], [1]),
        (late(5, 3, 0), 5, [], [(4, 5, 9)], [1]),
        (bell(5, 1), 5, [], [(4, 5, 9)], [1]),
        (end(6, 5), 5, [], [(4, 5, 9)], [1]),
        (bell(6, 1), 5, [], [(4, 5, 9)], []),
        (end(6, 5), 5, [], [(4, 5, 9)], []),
        (end(7, 5), 6, [], [(4, 5, 9)], []),
        (down(8, 4, 5, 9), 6, [], [], []),
        (bell(9, 0), 5, [], [], []),
    )

    def test_behind_each_event(self):
        holder = holder_of(self.TEXT, self.RINGS, **self.BOUNDS)
        for event, place, owes, lies, rings in self.GONE:
            with self.subTest(event=event):
                self.assertIsNone(holder.tell(event))
                self.assertEqual(holder.state_now()[0], place)
                self.assertEqual((holder.owes(), holder.lies(), holder.rings_now()), (owes, lies, rings))
                self.assertIs(holder.all_over(), event == down(8, 4, 5, 9))
                self.assertIsNone(holder.parted())

    def test_the_state_is_the_plain_makes(self):
        # owed worths are in their spots and laid ones in their cells, though none has landed
        events = [event for event, _, _, _, _ in self.GONE[:4]]
        holder = holder_of(self.TEXT, self.RINGS, None, events, **self.BOUNDS)
        cells = (0, 0, 0, 0, 3) + (0,) * 11
        self.assertEqual(holder.state_now(), (4, (0, 3, 9, 0, 0, 0, 0, 0), cells, False, None))
        holder.tell(late(3, 1, 9))
        holder.tell(end(3, 4, cell(5, 9)))
        holder.tell(bell(3, 0))
        cells = (0, 0, 0, 0, 3, 9) + (0,) * 10
        self.assertEqual(holder.state_now(), (5, (0, 3, 9, 0, 0, 0, 0, 0), cells, True, 5))

    def test_owed_by_rising_numbers(self):
        text = "; ".join(f"mul {d} 0 0" for d in range(6))
        holder = holder_of(text, (), (1, ZEROS, CELLS, False, None), [], room=9, width=9, longest=9)
        events = [end(0, d, spot(d)) for d in range(1, 6)]
        for event in events + [late(0, 2, 0), late(1, 0, 0)]:
            self.assertIsNone(holder.tell(event))
        self.assertEqual(holder.owes(), [(1, 2, 0), (3, 4, 0), (4, 5, 0)])

    def test_waiting_bells_by_the_last_beat_alone(self):
        holder = holder_of("home; home | 0", [(5, 0)], None, [end(4, 0)], patience=9)
        self.assertEqual(holder.rings_now(), [])
        holder.tell(end(5, 1))
        self.assertEqual(holder.rings_now(), [0])
        self.assertFalse(holder.all_over())

    def test_all_over_with_a_ring_far_behind(self):
        holder = holder_of("home | 0", [(FAR, 0)], None, [end(4, 0)])
        self.assertTrue(holder.all_over())
        holder.tell(bell(FAR, 0))
        self.assertFalse(holder.all_over())


class BehindAParting(unittest.TestCase):
    TEXT = "put 1 5; mul 2 1 1; lay 1 0 0; home | 3"
    BOUNDS = {"room": 1, "longest": 3}
    EVENTS = [end(0, 0, spot(1, 5)), end(1, 1, spot(2)), end(2, 2, cell(0, 5))]

    def test_nothing_is_taken_up_any_more(self):
        for wrong, cause in ((end(2, 3), "crowd"), (end(9, 3), "overdue"), (end(1, 3), "beat"), (bell(2, 1), "stray")):
            holder = holder_of(self.TEXT, [(0, 0)], None, self.EVENTS, patience=9, **self.BOUNDS)
            before = asked(holder)
            self.assertIsNone(before[-1])
            self.assertEqual(holder.tell(wrong), cause)
            for event in (late(2, 1, 25), down(2, 0, 0, 5), wrong, end(3, 3), bell(3, 0), late(-5, 0, 0)):
                self.assertEqual(asked(holder), before[:-1] + ((3, cause),))
                self.assertEqual(holder.tell(event), cause)
            self.assertEqual(asked(holder), before[:-1] + ((3, cause),))

    def test_the_first_event_parts(self):
        holder = holder_of(self.TEXT, [(0, 0)])
        self.assertEqual(holder.tell(end(7, 0, spot(1, 6))), "bell")
        self.assertEqual(asked(holder), (start([], []), [], [], [0], False, (0, "bell")))

    def test_the_beat_of_an_event_that_parts_is_not_the_last_one(self):
        holder = holder_of("home; home | 0", [(5, 0)], None, [end(1, 0), end(9, 0)])
        self.assertEqual(holder.parted(), (1, "place"))
        self.assertEqual(holder.rings_now(), [])

    def test_an_event_that_parts_leaves_the_count_and_the_crowd(self):
        for wrong in (end(3, 9), end(3, 1, spot(1, 6)), late(3, 0, 0), down(3, 0, 0, 0), bell(3, 0)):
            holder = holder_of("home; put 1 5; home", (), None, [end(3, 0), wrong], width=2)
            self.assertEqual(holder.parted()[0], 1)
            way = holder.way_on(2)
            again = holder_of("home; put 1 5; home", (), None, [end(3, 0)], width=2)
            self.assertEqual([again.tell(event) for event in way], [None, None])


class TheAskersOwn(unittest.TestCase):
    TEXT = "mul 1 0 0; lay 1 0 0; mul 2 0 0; lay 0 0 1; home | 4 4"
    BOUNDS = {"width": 9, "room": 9, "queue": 9, "patience": 9, "longest": 9}
    RINGS = [(0, 0), (0, 1)]

    def holder(self):
        events = [end(0, 0, spot(1)), late(0, 0, 0), end(0, 1, cell(0, 0)), end(0, 2, spot(2)), end(0, 3, cell(1, 0))]
        return holder_of(self.TEXT, self.RINGS, None, events, **self.BOUNDS)

    def lists(self, holder):
        return [holder.owes(), holder.lies(), holder.rings_now(), holder.way_on(9)]

    def test_changed_lists_change_nothing(self):
        holder = self.holder()
        before = copy.deepcopy(self.lists(holder))
        for told in self.lists(holder):
            self.assertGreater(len(told), 0)
            told.clear()
        for told in self.lists(holder):
            told.append("more")
            told.reverse()
        self.assertEqual(self.lists(holder), before)

    def test_lists_told_before_stay_what_they_were(self):
        holder = self.holder()
        told = self.lists(holder)
        before = copy.deepcopy(told)
        for event in (late(1, 2, 0), down(1, 1, 0, 0), bell(1, 0), end(1, 4), bell(1, 1), end(0, 0)):
            holder.tell(event)
        self.assertEqual(told, before)
        self.assertEqual(self.lists(holder)[:3], [[], [(3, 1, 0)], []])

    def test_rings_handed_in_may_be_changed(self):
        mill, rings = read_mill("home | 0"), [(0, 0), (0, 0)]
        holder = Holder(mill, start([], []), rings, terms())
        rings.clear()
        self.assertEqual(holder.rings_now(), [0])
        rings.append((0, 0))
        self.assertEqual([holder.tell(bell(0, 0)), holder.tell(end(0, 0)), holder.tell(bell(1, 0))], [None] * 3)
        rings.extend([(0, 0)] * 9)
        self.assertEqual(holder.rings_now(), [])

    def test_what_is_handed_in_stays(self):
        dice = Random("held stays")
        for mill, state, lay, most, rings, _ in cases(60, "held stays"):
            diary = rung_run(mill, state, lay, most, rings)[1]
            bounds = some_terms(dice)
            handed = copy.deepcopy((mill, state, rings, bounds, diary))
            parting(mill, state, rings, bounds, diary)
            holder = Holder(mill, state, rings, bounds)
            for event in diary:
                holder.tell(event)
            asked(holder)
            holder.way_on(20)
            self.assertEqual((mill, state, rings, bounds, diary), handed)

    def test_two_holders_beside_each_other(self):
        one, two = self.holder(), self.holder()
        one.tell(late(0, 2, 0))
        two.tell(down(0, 1, 0, 0))
        self.assertEqual((one.owes(), one.lies()), ([], [(1, 0, 0), (3, 1, 0)]))
        self.assertEqual((two.owes(), two.lies()), ([(2, 2, 0)], [(3, 1, 0)]))

    def test_six_hundred_events_and_sixty_rings(self):
        mill = read_mill("put 1 1; go 1 0; home | 2")
        rings = [(300 - 5 * n, 0) for n in range(60)]
        holder, diary = Holder(mill, start([], []), rings, terms()), []
        while len(diary) < 600:
            event = holder.way_on(1)[0]
            diary.append(event)
            self.assertIsNone(holder.tell(event))
        self.assertIsNone(parting(mill, start([], []), rings, terms(), diary))
        self.assertEqual(parting(mill, start([], []), rings, terms(), diary + [bell(FAR, 0)]), (600, "stray"))
        self.assertEqual(len([event for event in diary if event[0] == "bell"]), 60)


class WaysOn(unittest.TestCase):
    def hold(self, make, wrong=None):
        """make() tells a new Holder each time, that has taken up the same events; a wrong one may come behind them."""
        for m in (0, 1, 2, 5, 17, 100):
            holder, other = make(), make()
            if wrong is not None:
                self.assertIsNotNone(holder.tell(wrong))
            before = asked(holder)
            way = holder.way_on(m)
            self.assertIs(type(way), list)
            self.assertEqual(asked(holder), before)
            self.assertEqual(holder.way_on(m), way)
            self.assertEqual([other.tell(event) for event in way], [None] * len(way))
            self.assertLessEqual(len(way), m)
            if len(way) < m:
                self.assertTrue(other.all_over())
                self.assertEqual(other.way_on(m), [])
            if before[-1] is None:
                self.assertEqual([holder.tell(event) for event in way], [None] * len(way))
                self.assertEqual(asked(holder), asked(other))
        return way

    def test_from_the_beginning(self):
        self.assertEqual(len(self.hold(lambda: holder_of("put 1 5; put 2 6"))), 2)
        self.assertEqual(len(self.hold(lambda: holder_of("put 1 5; go 1 0"))), 100)

    def test_where_all_is_over(self):
        self.assertEqual(self.hold(lambda: holder_of("home", (), (1, ZEROS, CELLS, False, None))), [])
        self.assertEqual(self.hold(lambda: holder_of("home | 0", [(0, 0)], (1, ZEROS, CELLS, True, None))), [])
        self.assertEqual(self.hold(lambda: holder_of("home | 0", [(9, 0)], None, [end(3, 0)])), [])
        self.assertEqual(self.hold(lambda: holder_of("home", (), None, [end(FAR, 0)])), [])

    def test_with_bells_that_wait(self):
        rings = [(0, 1), (0, 0), (0, 1), (2, 0), (3, 2), (FAR, 0)]
        for patience in (0, 1, 3):
            for width in (1, 2, FAR):
                for text in ("put 1 1; put 2 2; home | 2 3 0", "shut; put 1 1; open; go 1 0 | 2 4 4"):
                    self.hold(lambda: holder_of(text, rings, patience=patience, width=width))

    def test_a_bell_at_rest(self):
        way = self.hold(lambda: holder_of("home | 1", [(0, 0), (0, 0)], (1, ZEROS, CELLS, False, None)))
        self.assertEqual(way, [bell(0, 0)])

    def test_a_ring_in_the_beat_behind(self):
        # the beat is full, and in the next one a bell waits for which there is no patience
        way = self.hold(lambda: holder_of("home; home; home | 2", [(5, 0)], None, [end(4, 0)]))
        self.assertIn("bell", [event[0] for event in way])

    def test_behind_owed_worths(self):
        for longest in (0, 1, 7, FAR):
            for width in (2, 3):
                self.hold(lambda: holder_of(
                    "mul 1 0 0; take 2 0 0; sum 1 1 2; go 1 0", (), None, [end(3, 0, spot(1)), end(3, 1, spot(2))],
                    room=2, longest=longest, width=width,
                ))

    def test_behind_laid_worths(self):
        for queue in (2, 3):
            self.hold(lambda: holder_of(
                "lay 1 0 0; lay 1 0 0; lay 1 0 1", (), None, [end(3, 0, cell(0, 0)), end(3, 1, cell(0, 0))],
                queue=queue, width=2,
            ))

    def test_behind_pressed_ends(self):
        for patience in (0, 1, 2):
            events = [end(0, n, spot(1, n)) for n in range(patience)]
            text = "put 1 0; put 1 1; put 1 2; put 1 3; home | 4"
            way = self.hold(lambda: holder_of(text, [(0, 0)], None, events, patience=patience, width=9))
            self.assertIn("bell", [event[0] for event in way])

    def test_behind_a_parting(self):
        events = [end(0, 0, spot(1)), end(0, 1, cell(0, 0))]
        for wrong in (None, end(0, 9), end(0, 2, spot(3, 3)), end(1, 2, spot(3, 3)), late(0, 1, 0), bell(-1, 0)):
            way = self.hold(lambda: holder_of(
                "mul 1 0 0; lay 2 0 0; put 3 3; sum 3 1 1 | 2", [(0, 0)], None, events,
                room=1, width=2, patience=2,
            ), wrong)
            self.assertEqual({event[0] for event in way}, {"end", "late", "down", "bell"})

    def test_behind_a_parting_of_an_overdue_late(self):
        events = [end(4, 0, spot(1))]
        way = self.hold(lambda: holder_of("mul 1 0 0; home", (), None, events, room=1, longest=4), late(9, 0, 0))
        self.assertEqual(sorted(event[0] for event in way), ["end", "late"])

    def test_beats_of_sixty_figures(self):
        rings = [(FAR, 0), (FAR + 1, 0), (3 * FAR, 0)]
        for width in (1, 2):
            self.hold(lambda: holder_of(
                "put 1 1; go 1 0; home | 2", rings, None, [end(FAR, 0, spot(1, 1))], width=width, patience=1,
            ))

    def test_behind_each_event_of_many_diaries(self):
        dice = Random("ways on")
        for mill, state, lay, most, rings, _ in cases(60, "ways on"):
            diary = rung_run(mill, state, lay, most, rings)[1]
            ahead = diary[:dice.randrange(len(diary) + 1)]

            def make():
                holder = Holder(mill, state, rings, terms_of(lay))
                for event in ahead:
                    self.assertIsNone(holder.tell(event))
                return holder

            with self.subTest(mill=mill, state=state, lay=lay, rings=rings, ahead=len(ahead)):
                self.hold(make)


if __name__ == "__main__":
    unittest.main()
