"""Promises [16], [17] and [3]: bells of rung and of led makes, by diaries and panes that were worked out by hand."""

import unittest

from helper import WIDE, bell, cell, down, end, late, lay, spot
from twomakes.errors import NoBell
from twomakes.long import led_run, rung_run
from twomakes.plain import start
from twomakes.texts import read_mill

FAR = 10 ** 59


def state_at(place, shut=False, kept=None, spots=()):
    return (place, tuple(spots) + (0,) * (8 - len(spots)), (0,) * 16, shut, kept)


class ByHand(unittest.TestCase):
    def hold(self, make, text, numbers, bells, diary, panes, state, most=120, begin=None):
        begin = start([], []) if begin is None else begin
        with self.subTest(text=text, numbers=numbers, bells=bells):
            told = make(read_mill(text), begin, lay(**numbers), most, bells)
            self.assertEqual(told[1], diary)
            self.assertEqual(told[2], panes)
            self.assertEqual(told[0], state)


class Rung(ByHand):
    def test_looks_in_multiples_of_look(self):
        diary = [end(1, 0, spot(1, 1)), bell(2, 0), end(3, 2), end(4, 1, spot(2, 2)), end(5, 2)]
        panes = [(0,), (1,), (2,), (1,), (2,), ()]
        for beat in (1, 2):
            self.hold(rung_run, "put 1 1; put 2 2; home | 2", {"look": 2}, [(beat, 0)], diary, panes,
                      state_at(3, spots=[0, 1, 2]))

    def test_each_look(self):
        mill = read_mill("put 1 1; go 1 0; home | 2")
        for look in (1, 2, 3, 4):
            for beat in range(13):
                diary = rung_run(mill, start([], []), lay(look=look), 30, [(beat, 0)])[1]
                with self.subTest(look=look, beat=beat):
                    bells = [event for event in diary if event[0] == "bell"]
                    self.assertEqual(bells, [bell(-(-beat // look) * look, 0)])

    def test_in_the_first_beat(self):
        diary = [bell(0, 0), end(1, 1), end(2, 0, spot(1, 1)), end(3, 1)]
        self.hold(rung_run, "put 1 1; home | 1", {"look": 4}, [(0, 0)], diary, [(1,), (0,), (1,), ()],
                  state_at(2, spots=[0, 1]))

    def test_takes_the_least_that_waits_and_one_rung_twice_twice(self):
        diary = [
            bell(0, 0), end(1, 0), bell(2, 0), end(3, 0), bell(4, 2), end(5, 0), end(6, 0),
        ]
        panes = [(0,)] * 6 + [()]
        for rings in ([(0, 2), (0, 0), (0, 0)], [(0, 0), (0, 2), (2, 0)], [(1, 0), (0, 2), (0, 0)]):
            self.hold(rung_run, "home | 0 1 0", {}, rings, diary, panes, state_at(1))

    def test_a_lesser_bell_that_is_rung_later_does_not_count_yet(self):
        diary = [bell(0, 1), end(1, 0), bell(2, 0), end(3, 0), end(4, 0)]
        self.hold(rung_run, "home | 0 0", {}, [(2, 0), (0, 1)], diary, [(0,)] * 4 + [()], state_at(1))

    def test_one_rung_twice_and_taken_once_waits_for_its_beat(self):
        diary = [bell(0, 0), end(1, 0), end(2, 0), bell(5, 0), end(6, 0)]
        panes = [(0,), (0,), (), (), (), (0,), ()]
        self.hold(rung_run, "home | 0", {}, [(5, 0), (0, 0)], diary, panes, state_at(1))

    def test_waits_while_it_is_shut(self):
        # shut by the end at beat 1, let in by the end at beat 3
        text = "shut; put 1 1; open; put 2 2; home | 4"
        diary = [
            end(1, 0), end(2, 1, spot(1, 1)), end(3, 2), bell(4, 0), end(5, 4), end(6, 3, spot(2, 2)), end(7, 4),
        ]
        panes = [(0,), (1,), (2,), (3,), (4,), (3,), (4,), ()]
        for beat in (2, 3, 4):
            self.hold(rung_run, text, {}, [(beat, 0)], diary, panes, state_at(5, spots=[0, 1, 2]))
        # bells come ahead of a beat's ends
        diary = [
            bell(1, 0), end(2, 4), end(3, 0), end(4, 1, spot(1, 1)), end(5, 2), end(6, 3, spot(2, 2)), end(7, 4),
        ]
        panes = [(0,), (4,), (0,), (1,), (2,), (3,), (4,), ()]
        self.hold(rung_run, text, {}, [(1, 0)], diary, panes, state_at(5, spots=[0, 1, 2]))

    def test_rows_end_on_while_it_does_not_look(self):
        diary = [end(1, 0, spot(1, 1)), end(1, 1), end(2, 0, spot(1, 1)), end(2, 1), bell(3, 0), end(4, 2)]
        panes = [(0, 1), (0, 1), (0, 1), (2,), (0, 1)]
        self.hold(rung_run, "put 1 1; go 1 0; home | 2", {"width": 2, "depth": 4, "look": 3}, [(1, 0)],
                  diary, panes, state_at(0, spots=[0, 1]), most=5)

    def test_late_then_down_then_bell(self):
        diary = [
            end(1, 0, spot(1)), end(1, 1, cell(3, 3)), end(2, 2, spot(2, 5)), end(2, 3),
            late(3, 0, 9), down(3, 1, 3, 3), bell(3, 0), end(4, 3),
        ]
        panes = [(0, 1), (2, 3), (), (3,), ()]
        state = (4, (3, 9, 5, 0, 0, 0, 0, 0), (0, 0, 0, 3) + (0,) * 12, False, None)
        self.hold(rung_run, "mul 1 0 0; lay 0 0 0; put 2 5; home | 3",
                  {"width": 2, "depth": 4, "slow": 2, "ebb": 3, "look": 3}, [(2, 0)], diary, panes, state,
                  begin=start([3], []))

    def test_owed_and_laid_worths_stay_when_inner_rows_are_thrown(self):
        diary = [
            end(1, 0, spot(1)), end(1, 1, cell(3, 3)), bell(2, 0), end(3, 3), late(4, 0, 9), down(4, 1, 3, 3),
            end(4, 2, spot(2, 9)), end(4, 3),
        ]
        panes = [(0, 1), (2, 3), (3,), (2, 3), ()]
        state = (4, (3, 9, 9, 0, 0, 0, 0, 0), (0, 0, 0, 3) + (0,) * 12, False, None)
        self.hold(rung_run, "mul 1 0 0; lay 0 0 0; sum 2 1 4; home | 3",
                  {"width": 2, "depth": 4, "slow": 3, "ebb": 4, "look": 2}, [(1, 0)], diary, panes, state,
                  begin=start([3], []))

    def test_at_rest_it_waits_for_rings_to_come(self):
        diary = [bell(4, 0), end(5, 0)]
        self.hold(rung_run, "home | 0", {"look": 2}, [(3, 0)], diary, [(), (), (), (), (0,), ()], state_at(1),
                  begin=state_at(1))
        self.hold(rung_run, "home | 0", {"look": 2}, [(3, 0)], [], [()] * 4, state_at(1), most=4, begin=state_at(1))

    def test_at_rest_and_shut_it_is_over(self):
        self.hold(rung_run, "home | 0 1", {}, [(0, 1), (3, 0)], [bell(0, 1)], [()], state_at(1, True, 0))
        self.hold(rung_run, "home | 0 1", {}, [(0, 1)], [], [], state_at(1, True), begin=state_at(1, True))
        # the worth that is owed still lands, and then it is over
        diary = [end(1, 0, spot(1)), bell(2, 0), late(10, 0, 0)]
        self.hold(rung_run, "mul 1 0 0 | 1", {"slow": 9}, [(2, 0), (3, 0)], diary, [(0,)] + [()] * 10,
                  state_at(1, True, 1))

    def test_a_resting_make_takes_bells_until_each_ring_was_taken(self):
        diary = [bell(0, 0), end(1, 0), bell(2, 0), end(3, 0)]
        self.hold(rung_run, "home | 0", {}, [(0, 0), (1, 0)], diary, [(0,), (), (0,), ()], state_at(1),
                  begin=state_at(1))

    def test_rings_behind_the_last_beat(self):
        self.hold(rung_run, "home | 0", {}, [(FAR, 0)], [end(1, 0)], [(0,), (), ()], state_at(1), most=3)


class Led(ByHand):
    def test_no_row_ends_while_a_bell_could_be_taken(self):
        diary = [
            end(1, 0, spot(1, 1)), end(1, 1, spot(2, 2)), bell(2, 0), end(3, 3), end(4, 2, spot(3, 3)), end(4, 3),
        ]
        panes = [(0, 1, 2, 3), (2, 3), (3,), (2, 3), ()]
        self.hold(led_run, "put 1 1; put 2 2; put 3 3; home | 3", WIDE, [(2, 0)], diary, panes,
                  state_at(4, spots=[0, 1, 2, 3]))

    def test_ahead_of_all_ends(self):
        diary = [bell(0, 0), end(1, 1), end(2, 0, spot(1, 1)), end(2, 1)]
        self.hold(led_run, "put 1 1; home | 1", WIDE, [(0, 0)], diary, [(1,), (0, 1), ()],
                  state_at(2, spots=[0, 1]))

    def test_does_not_look_at_look(self):
        diary = [end(1, 0, spot(1, 1)), end(2, 1), bell(3, 0), end(4, 2), end(5, 0, spot(1, 1)), end(6, 1)]
        panes = [(0,), (1,), (0,), (2,), (0,), (1,), (0,)]
        self.hold(led_run, "put 1 1; go 1 0; home | 2", {"look": 4}, [(2, 0)], diary, panes,
                  state_at(0, spots=[0, 1]), most=7)

    def test_waits_for_being_let_in(self):
        diary = [
            end(1, 0), end(1, 1, spot(1, 1)), end(1, 2), bell(2, 0), end(3, 4), end(4, 3, spot(2, 2)), end(4, 4),
        ]
        panes = [(0, 1, 2, 3), (3, 4), (4,), (3, 4), ()]
        for after in (1, 2, 3):
            self.hold(led_run, "shut; put 1 1; open; put 2 2; home | 4", WIDE, [(after, 0)], diary, panes,
                      state_at(5, spots=[0, 1, 2]))

    def test_bells_of_one_place_come_one_by_one(self):
        diary = [
            bell(0, 1), end(1, 1), bell(2, 0), end(3, 1), bell(4, 1), end(5, 1), end(6, 0, spot(1, 1)), end(6, 1),
        ]
        panes = [(1,), (0, 1), (1,), (0, 1), (1,), (0, 1), ()]
        self.hold(led_run, "put 1 1; home | 1 1", WIDE, [(0, 1), (0, 0), (0, 1)], diary, panes,
                  state_at(2, spots=[0, 1]))

    def test_bells_keep_their_order(self):
        diary = [end(1, 0, spot(1, 1)), bell(2, 1), end(3, 2), bell(4, 0), end(5, 3, spot(3, 3))]
        panes = [(0,), (1,), (2,), (1,), (3,), ()]
        self.hold(led_run, "put 1 1; put 2 2; home; put 3 3 | 3 2", {}, [(1, 1), (1, 0)], diary, panes,
                  state_at(4, True, 1, [0, 1, 0, 3]))

    def test_over_where_the_next_cannot_be_taken(self):
        self.hold(led_run, "home | 0", {}, [(9, 0)], [end(1, 0)], [(0,), ()], state_at(1))
        self.hold(led_run, "home | 0", {}, [(0, 0)], [], [], state_at(1, True), begin=state_at(1, True))
        self.hold(led_run, "home | 1 0", {}, [(0, 0), (0, 1)], [bell(0, 0)], [()], state_at(1, True, 0))

    def test_a_resting_make_takes_bells(self):
        diary = [bell(0, 0), end(1, 0), bell(2, 0), end(3, 0)]
        self.hold(led_run, "home | 0", {}, [(0, 0), (1, 0), (3, 0)], diary, [(0,), (), (0,), ()], state_at(1),
                  begin=state_at(1))

    def test_a_bell_while_a_worth_is_owed(self):
        diary = [end(1, 0, spot(1)), bell(2, 0), end(3, 1), end(4, 1), late(10, 0, 0)]
        panes = [(0,), (1,), (1,), (1,)] + [()] * 7
        self.hold(led_run, "mul 1 0 0; home | 1", {"slow": 9}, [(1, 0)], diary, panes, state_at(2))
        diary = [end(1, 0, spot(1)), end(2, 1), bell(3, 0), end(4, 1), late(10, 0, 0)]
        panes = [(0,), (1,), (), (1,)] + [()] * 7
        self.hold(led_run, "mul 1 0 0; home | 1", {"slow": 9}, [(2, 0)], diary, panes, state_at(2))

    def test_a_bell_is_taken_beside_an_owed_spot_that_keeps_rows_back(self):
        diary = [end(1, 0, spot(1)), bell(2, 0), end(3, 2), late(6, 0, 0), end(6, 1, spot(2, 0)), end(7, 2)]
        panes = [(0,), (1,), (2,), (1,), (1,), (1,), (2,), ()]
        self.hold(led_run, "mul 1 0 0; sum 2 1 1; home | 2", {"slow": 5}, [(1, 0)], diary, panes, state_at(3))


class Refused(unittest.TestCase):
    def test_no_bell_ahead_of_all(self):
        for text, wrong in (("home", (0, 1, -1, FAR)), ("open; home | 0 1", (2, 3, -1, -2, FAR, -FAR))):
            mill = read_mill(text)
            rows = len(mill[0])
            for k in wrong:
                for pairs in ([(0, k)], [(FAR, k)], [(0, k), (1, k)]) + (
                    ([(0, 0), (1, k)], [(0, k), (0, 0)]) if len(mill[1]) else ()
                ):
                    for begin in (state_at(0), state_at(rows), state_at(rows, True), state_at(0, True)):
                        for most in (0, 5):
                            self.refuse(rung_run, mill, begin, most, pairs)
                            self.refuse(led_run, mill, begin, most, pairs)

    def refuse(self, make, mill, begin, most, pairs):
        kept = list(pairs)
        with self.subTest(make=make.__name__, mill=mill, begin=begin, most=most, pairs=pairs):
            with self.assertRaises(NoBell) as caught:
                make(mill, begin, lay(), most, pairs)
            self.assertIs(type(caught.exception), NoBell)
            self.assertEqual(pairs, kept)

    def test_left_out_and_none(self):
        mill = read_mill("mul 1 1 1; put 2 5; home | 0")
        for make in (rung_run, led_run):
            told = make(mill, start([0, 3], []), lay(), 20)
            self.assertEqual(make(mill, start([0, 3], []), lay(), 20, None), told)
            self.assertEqual(make(mill, start([0, 3], []), lay(), 20, None, None), told)
            self.assertEqual(make(mill, start([0, 3], []), lay(), 20, [], []), told)
            self.assertEqual(len(told[1]), 4)


if __name__ == "__main__":
    unittest.main()
