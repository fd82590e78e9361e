"""Promises [14], [15] and [17]: the long make beat by beat, by diaries and panes that were worked out by hand."""

import unittest

from helper import WIDE, cell, down, end, late, lay, spot
from twomakes.long import led_run, rung_run
from twomakes.plain import start
from twomakes.texts import read_mill


class ByHand(unittest.TestCase):
    """Runs without bells, which a rung and a led make go through alike."""

    def hold(self, text, numbers, diary, panes, most=120, spots=(), cells=(), state=None):
        mill = read_mill(text)
        begin = start(list(spots), list(cells)) if state is None else state
        states = []
        for make in (rung_run, led_run):
            with self.subTest(text=text, numbers=numbers, make=make.__name__):
                behind, told, shown = make(mill, begin, lay(**numbers), most)
                states.append(behind)
                self.assertEqual(told, diary)
                self.assertEqual(shown, panes)
                self.assertEqual([type(one) for one in (behind, told, shown)], [tuple, list, list])
                self.assertEqual({type(pane) for pane in shown}, {tuple} if panes else set())
        self.assertEqual(states[0], states[1])
        return states[0]


class WidthAndDepth(ByHand):
    STRAIGHT = "put 1 5; put 2 6; sum 3 1 2"
    ONE_BY_ONE = [end(1, 0, spot(1, 5)), end(2, 1, spot(2, 6)), end(3, 2, spot(3, 11))]

    def test_one_of_each(self):
        state = self.hold(self.STRAIGHT, {}, self.ONE_BY_ONE, [(0,), (1,), (2,), ()])
        self.assertEqual(state, (3, (0, 5, 6, 11, 0, 0, 0, 0), (0,) * 16, False, None))

    def test_most_depth_is_of_no_use_to_the_least_width(self):
        self.hold(self.STRAIGHT, {"depth": 8}, self.ONE_BY_ONE, [(0,), (1,), (2,), ()])

    def test_most_width_is_of_no_use_to_the_least_depth(self):
        self.hold(self.STRAIGHT, {"width": 4}, self.ONE_BY_ONE, [(0,), (1,), (2,), ()])

    def test_width_of_two(self):
        diary = [end(1, 0, spot(1, 5)), end(1, 1, spot(2, 6)), end(2, 2, spot(3, 11))]
        self.hold(self.STRAIGHT, {"width": 2, "depth": 8}, diary, [(0, 1), (2,), ()])
        self.hold(self.STRAIGHT, {"width": 4, "depth": 2}, diary, [(0, 1), (2,), ()])

    def test_the_most_of_both(self):
        diary = [end(1, 0, spot(1, 5)), end(1, 1, spot(2, 6)), end(1, 2, spot(3, 11))]
        self.hold(self.STRAIGHT, WIDE, diary, [(0, 1, 2), ()])

    def test_as_many_rows_as_the_width_in_and_out(self):
        rows = [f"put 1 {k}" for k in range(10)]
        diary = [end(1 + k // 4, k, spot(1, k)) for k in range(10)]
        self.hold("; ".join(rows), WIDE, diary, [(0, 1, 2, 3), (4, 5, 6, 7), (8, 9), ()])

    def test_as_many_inner_rows_as_the_depth(self):
        rows = ["mul 1 2 3", "sum 4 1 1"] + [f"put 5 {k}" for k in range(2, 12)]
        diary = [
            end(1, 0, spot(1)),
            late(10, 0, 12), end(10, 1, spot(4, 24)), end(10, 2, spot(5, 2)), end(10, 3, spot(5, 3)),
            end(10, 4, spot(5, 4)),
            end(11, 5, spot(5, 5)), end(11, 6, spot(5, 6)), end(11, 7, spot(5, 7)), end(11, 8, spot(5, 8)),
            end(12, 9, spot(5, 9)), end(12, 10, spot(5, 10)), end(12, 11, spot(5, 11)),
        ]
        panes = [(0, 1, 2, 3), (1, 2, 3, 4, 5, 6, 7)] + [(1, 2, 3, 4, 5, 6, 7, 8)] * 8
        panes += [(5, 6, 7, 8, 9, 10, 11), (9, 10, 11), ()]
        self.hold("; ".join(rows), {"width": 4, "depth": 8, "slow": 9}, diary, panes, spots=[0, 0, 3, 4])

    def test_inner_rows_of_a_round_that_waits(self):
        diary = [
            end(1, 0, spot(1)), end(1, 1), late(4, 0, 9), end(4, 0, spot(1)), end(4, 1),
        ]
        panes = [(0, 1), (0, 1), (0, 1, 0, 1), (0, 1, 0, 1, 0), (0, 1, 0, 1, 0)]
        state = self.hold(
            "mul 1 1 1; go 0 0", {"width": 2, "depth": 5, "slow": 3}, diary, panes, most=5, spots=[1, 3]
        )
        self.assertEqual(state, (0, (1, 9, 0, 0, 0, 0, 0, 0), (0,) * 16, False, None))


class LateWorths(ByHand):
    def test_out_of_their_order(self):
        diary = [
            end(1, 0, spot(7, 3)), end(2, 1, spot(6, 5)), end(3, 2, spot(1)), end(4, 3, spot(2)),
            late(5, 3, 25), late(6, 2, 9),
        ]
        panes = [(0,), (1,), (2,), (3,), (), (), ()]
        state = self.hold("put 7 3; put 6 5; mul 1 7 7; mul 2 6 6", {"spread": 3, "room": 2}, diary, panes)
        self.assertEqual(state[1], (0, 9, 25, 0, 0, 0, 5, 3))

    def test_of_one_beat_by_the_ends_numbers(self):
        diary = [end(1, 0, spot(7, 3)), end(2, 1, spot(1)), end(3, 2, spot(2)), late(4, 1, 9), late(4, 2, 9)]
        panes = [(0,), (1,), (2,), (), ()]
        self.hold("put 7 3; mul 1 7 7; mul 2 7 7", {"spread": 2, "room": 2}, diary, panes)

    def test_slow_and_spread_at_their_most(self):
        diary = [end(1 + k, k, spot(1, k)) for k in range(4)] + [end(5, 4, spot(2)), late(18, 4, 9)]
        panes = [(0,), (1,), (2,), (3,), (4,)] + [()] * 14
        text = "put 1 0; put 1 1; put 1 2; put 1 3; mul 2 1 1"
        self.hold(text, {"slow": 9, "spread": 5}, diary, panes)

    def test_slow_and_spread_at_their_least(self):
        diary = [end(1, 0, spot(1)), late(2, 0, 4), end(2, 1, spot(1)), late(3, 1, 16)]
        self.hold("mul 1 1 1; mul 1 1 1", {}, diary, [(0,), (1,), (), ()], spots=[0, 2])

    def test_the_spot_keeps_what_it_has_until_then(self):
        diary = [end(1, 0, spot(1))]
        for most, panes in ((2, [(0,), ()]), (3, [(0,), (), ()])):
            state = self.hold("mul 1 2 2", {"slow": 2}, diary, panes, most=most, spots=[0, 7, 3])
            self.assertEqual(state, (1, (0, 7, 3, 0, 0, 0, 0, 0), (0,) * 16, False, None))
        state = self.hold("mul 1 2 2", {"slow": 2}, diary + [late(3, 0, 9)], [(0,), (), (), ()], spots=[0, 7, 3])
        self.assertEqual(state, (1, (0, 9, 3, 0, 0, 0, 0, 0), (0,) * 16, False, None))

    def test_worked_out_at_the_end_and_not_when_it_lands(self):
        diary = [end(1, 0, spot(1)), end(1, 1, spot(2, 8)), late(6, 0, 9)]
        panes = [(0, 1)] + [()] * 6
        self.hold("mul 1 2 2; put 2 8", {"width": 2, "depth": 2, "slow": 5}, diary, panes, spots=[0, 0, 3])
        diary = [end(1, 0, spot(1)), end(1, 1, cell(0, 9)), down(2, 1, 0, 9), late(6, 0, 40)]
        state = self.hold(
            "take 1 0 0; lay 2 0 0", {"width": 2, "depth": 2, "slow": 5}, diary, panes, spots=[0, 0, 9], cells=[40]
        )
        self.assertEqual(state, (2, (0, 40, 9, 0, 0, 0, 0, 0), (9,) + (0,) * 15, False, None))

    def test_wrapped(self):
        diary = [end(1, 0, spot(1)), late(2, 0, 1)]
        self.hold("mul 1 1 1", {}, diary, [(0,), (), ()], spots=[0, -1])


class RowsKeptBack(ByHand):
    def test_by_an_owed_spot_that_they_read_or_write(self):
        for row in (
            "sum 2 1 0", "sum 2 0 1", "mul 2 1 0", "mul 2 0 1", "less 2 1 0", "less 2 0 1", "take 2 1 0",
            "lay 1 0 0", "lay 0 1 0", "go 1 2", "go 1 0", "put 1 0", "sum 1 0 0", "mul 1 0 0", "less 1 0 0",
            "take 1 0 1",
        ):
            for slow_row in ("mul 1 3 3", "take 1 3 3"):
                mill = read_mill(f"{slow_row}; {row}")
                diary = rung_run(mill, start([], []), lay(width=2, depth=2, slow=3, room=2), 5)[1]
                with self.subTest(row=row, slow_row=slow_row):
                    self.assertEqual(diary[:2], [end(1, 0, spot(1)), late(4, 0, 0)])
                    self.assertEqual(diary[2][:3], ("end", 4, 1))

    def test_not_by_another_owed_spot(self):
        for row in (
            "put 2 0", "sum 2 0 3", "mul 2 3 0", "less 0 2 3", "take 2 0 1", "lay 0 2 1", "lay 2 2 1", "go 3 1",
            "put 0 1", "shut", "open", "home",
        ):
            mill = read_mill(f"mul 1 3 3; {row}")
            diary = rung_run(mill, start([], []), lay(width=2, depth=2, slow=3, room=2), 5)[1]
            with self.subTest(row=row):
                self.assertEqual(diary[0], end(1, 0, spot(1)))
                self.assertEqual(diary[1][:3], ("end", 1, 1))

    def test_each_behind_one_that_is_kept_back(self):
        diary = [end(1, 0, spot(1)), late(3, 0, 9), end(3, 1, spot(1, 8)), end(3, 2, spot(2, 6))]
        panes = [(0, 1, 2), (1, 2), (1, 2), ()]
        self.hold("mul 1 2 2; put 1 8; put 2 6", dict(WIDE, slow=2), diary, panes, spots=[0, 0, 3])

    def test_by_room_of_one(self):
        diary = [
            end(1, 0, spot(1)), late(4, 0, 9), end(4, 1, spot(2)), late(7, 1, 9), end(7, 2, spot(3)),
            late(10, 2, 9),
        ]
        panes = [(0,), (1,), (1,), (1,), (2,), (2,), (2,), (), (), (), ()]
        self.hold("mul 1 0 0; mul 2 0 0; mul 3 0 0", {"slow": 3}, diary, panes, spots=[3])

    def test_by_room_of_two(self):
        diary = [
            end(1, 0, spot(1)), end(2, 1, spot(2)), late(4, 0, 9), end(4, 2, spot(3)), late(5, 1, 5),
            late(7, 2, 9),
        ]
        panes = [(0,), (1,), (2,), (2,), (), (), (), ()]
        text = "mul 1 0 0; take 2 4 4; mul 3 0 0"
        self.hold(text, {"slow": 3, "room": 2}, diary, panes, spots=[3], cells=[1, 2, 3, 4, 5])

    def test_by_room_of_four(self):
        diary = [end(1, k, spot(1 + k)) for k in range(4)] + [late(10, k, 9) for k in range(4)]
        diary += [end(10, 4, spot(5)), late(19, 4, 9)]
        panes = [(0, 1, 2, 3)] + [(4,)] * 9 + [()] * 10
        text = "mul 1 0 0; mul 2 0 0; mul 3 0 0; mul 4 0 0; mul 5 0 0"
        self.hold(text, dict(WIDE, slow=9, room=4), diary, panes, spots=[3])

    def test_room_keeps_slow_rows_alone(self):
        diary = [
            end(1, 0, spot(1)), end(1, 1, spot(2, 5)), late(4, 0, 9), end(4, 2, spot(3)), end(4, 3, spot(4, 6)),
            late(7, 2, 9),
        ]
        panes = [(0, 1, 2, 3), (2, 3), (2, 3), (2, 3), (), (), (), ()]
        self.hold("mul 1 0 0; put 2 5; mul 3 0 0; put 4 6", dict(WIDE, slow=3), diary, panes, spots=[3])

    def test_by_queue_of_one(self):
        diary = [
            end(1, 0, spot(1, 5)), end(2, 1, cell(0, 5)), down(3, 1, 0, 5), end(3, 2, cell(1, 5)),
            down(6, 2, 1, 5), end(6, 3, cell(2, 5)), down(9, 3, 2, 5),
        ]
        panes = [(0,), (1,), (2,), (3,), (3,), (3,), (), (), (), ()]
        state = self.hold("put 1 5; lay 1 0 0; lay 1 0 1; lay 1 0 2", {"ebb": 3}, diary, panes)
        self.assertEqual(state[2], (5, 5, 5) + (0,) * 13)

    def test_by_queue_of_four(self):
        ends = [end(1, k, cell(1 + k, 1)) for k in range(4)]
        text = "; ".join([f"lay 0 0 {k}" for k in range(5)])
        diary = ends + [down(4, 0, 1, 1), end(4, 4, cell(5, 1))]
        diary += [down(4 * k + 4, k, k + 1, 1) for k in range(1, 5)]
        panes = [(0, 1, 2, 3), (4,), (4,), (4,)] + [()] * 17
        self.hold(text, dict(WIDE, queue=4, ebb=4), diary, panes, spots=[1])
        diary = ends + [down(2, 0, 1, 1), end(2, 4, cell(5, 1))] + [down(k + 2, k, k + 1, 1) for k in range(1, 5)]
        panes = [(0, 1, 2, 3), (4,)] + [()] * 5
        self.hold(text, dict(WIDE, queue=4), diary, panes, spots=[1])

    def test_queue_keeps_lays_alone(self):
        diary = [
            end(1, 0, cell(0, 0)), end(1, 1, spot(1)), late(2, 1, 0), end(2, 2, spot(2, 5)),
            down(4, 0, 0, 0), end(4, 3, cell(1, 0)), down(8, 3, 1, 0),
        ]
        panes = [(0, 1), (2, 3), (3,), (3,), (), (), (), (), ()]
        self.hold("lay 0 0 0; take 1 0 0; put 2 5; lay 0 0 1", {"width": 2, "depth": 4, "ebb": 4}, diary, panes)


class LaidWorths(ByHand):
    def test_a_take_reads_the_worth_laid_last_that_waits(self):
        diary = [
            end(1, 0, spot(1, 5)), end(1, 1, spot(2, 6)), end(1, 2, cell(0, 5)), end(1, 3, cell(0, 6)),
            end(2, 4, spot(3)), late(3, 4, 6), end(3, 5, spot(4)), late(4, 5, 91), down(4, 2, 0, 5),
            down(8, 3, 0, 6),
        ]
        panes = [(0, 1, 2, 3), (4, 5), (5,), (), (), (), (), (), ()]
        text = "put 1 5; put 2 6; lay 1 0 0; lay 2 0 0; take 3 0 0; take 4 0 1"
        numbers = dict(WIDE, queue=2, ebb=4)
        state = self.hold(text, numbers, diary, panes, cells=[90, 91])
        self.assertEqual(state, (6, (0, 5, 6, 6, 91, 0, 0, 0), (6, 91) + (0,) * 14, False, None))
        # one is down by then, the other one waits still, and the cells are told as they are
        state = self.hold(text, numbers, diary[:-1], panes[:8], most=8, cells=[90, 91])
        self.assertEqual(state, (6, (0, 5, 6, 6, 91, 0, 0, 0), (5, 91) + (0,) * 14, False, None))
        state = self.hold(text, numbers, diary[:-3], panes[:4], most=4, cells=[90, 91])
        self.assertEqual(state[2], (90, 91) + (0,) * 14)

    def test_they_go_down_at_multiples_of_ebb(self):
        for ebb, beats in ((1, (3, 4)), (2, (4, 6)), (3, (3, 6)), (4, (4, 8))):
            diary = rung_run(
                read_mill("put 1 5; lay 1 0 0; lay 1 0 1"), start([], []), lay(queue=4, ebb=ebb), 30
            )[1]
            with self.subTest(ebb=ebb):
                self.assertEqual(
                    [event for event in diary if event[0] == "down"],
                    [down(beats[0], 1, 0, 5), down(beats[1], 2, 1, 5)],
                )


class Guesses(ByHand):
    def test_a_go_farther_on_that_goes(self):
        diary = [end(1, 0, spot(1, 1)), end(1, 1), end(2, 3, spot(3, 7))]
        state = self.hold("put 1 1; go 1 3; put 2 9; put 3 7", WIDE, diary, [(0, 1, 2, 3), (3,), ()])
        self.assertEqual(state[1], (0, 1, 0, 7, 0, 0, 0, 0))

    def test_a_go_farther_on_that_does_not_go(self):
        diary = [end(1, 0, spot(1, 0)), end(1, 1), end(1, 2, spot(2, 9)), end(1, 3, spot(3, 7))]
        self.hold("put 1 0; go 1 3; put 2 9; put 3 7", WIDE, diary, [(0, 1, 2, 3), ()])

    def test_a_go_to_the_place_behind_it(self):
        self.hold(
            "go 1 1; put 2 7", {"width": 2, "depth": 2}, [end(1, 0), end(1, 1, spot(2, 7))], [(0, 1), ()],
            spots=[0, 1],
        )

    def test_a_go_to_rest(self):
        state = self.hold("go 1 2; put 2 7", WIDE, [end(1, 0)], [(0, 1), ()], spots=[0, 1])
        self.assertEqual(state[0], 2)

    def test_a_go_back_that_goes(self):
        diary = [end(1, 0, spot(1, 1)), end(1, 1), end(2, 0, spot(1, 1)), end(2, 1)]
        state = self.hold("put 1 1; go 1 0", {"width": 2, "depth": 4}, diary, [(0, 1)] * 3, most=3)
        self.assertEqual(state[0], 0)

    def test_a_go_back_that_does_not_go(self):
        diary = [end(1, 0, spot(1, 0)), end(1, 1), end(2, 2, spot(2, 7))]
        # none is left behind the go, or some are
        self.hold("put 1 0; go 1 0; put 2 7", {"width": 2, "depth": 4}, diary, [(0, 1), (2,), ()])
        self.hold("put 1 0; go 1 0; put 2 7", WIDE, diary, [(0, 1, 0, 1), (2,), ()])

    def test_a_go_to_its_own_place(self):
        diary = [end(1, 0, spot(1, 1)), end(1, 1), end(1, 1), end(2, 1), end(2, 1), end(2, 1)]
        panes = [(0, 1, 1), (1, 1, 1), (1, 1, 1)]
        self.hold("put 1 1; go 1 1", {"width": 3, "depth": 8}, diary, panes, most=3)

    def test_a_home_is_never_guessed_beyond(self):
        diary = [end(1, 0, spot(1, 5)), end(1, 1), end(2, 2, spot(2, 6))]
        panes = [(0, 1), (2,), ()]
        state = self.hold("put 1 5; home; put 2 6", WIDE, diary, panes)
        self.assertEqual(state[3:], (False, None))
        for shut in (False, True):
            begin = (0, (0,) * 8, (0,) * 16, shut, 2)
            state = self.hold("put 1 5; home; put 2 6", WIDE, diary, panes, state=begin)
            self.assertEqual(state, (3, (0, 5, 6, 0, 0, 0, 0, 0), (0,) * 16, False, None))

    def test_a_home_that_leads_back(self):
        diary = [end(1, 0, spot(1, 5)), end(1, 1), end(2, 0, spot(1, 5)), end(2, 1), end(3, 2, spot(2, 6))]
        panes = [(0, 1), (0, 1), (2,), ()]
        self.hold("put 1 5; home; put 2 6", WIDE, diary, panes, state=(0, (0,) * 8, (0,) * 16, True, 0))

    def test_shut_and_open(self):
        state = self.hold("shut", {}, [end(1, 0)], [(0,), ()])
        self.assertEqual(state[3:], (True, None))
        begin = (0, (0,) * 8, (0,) * 16, True, 1)
        state = self.hold("open", {}, [end(1, 0)], [(0,), ()], state=begin)
        self.assertEqual(state[3:], (False, 1))


class RunsOver(ByHand):
    def test_no_beats(self):
        begin = (1, (1,) * 8, (2,) * 16, True, 0)
        self.assertEqual(self.hold("mul 1 1 1; home | 0", WIDE, [], [], most=0, state=begin), begin)
        begin = (2, (1,) * 8, (2,) * 16, False, None)
        self.assertEqual(self.hold("mul 1 1 1; home | 0", WIDE, [], [], most=0, state=begin), begin)

    def test_at_rest_from_the_beginning(self):
        for shut in (False, True):
            for kept in (None, 0, 2):
                begin = (2, (1,) * 8, (2,) * 16, shut, kept)
                self.assertEqual(self.hold("mul 1 1 1; home | 0", WIDE, [], [], state=begin), begin)

    def test_as_many_beats_as_asked(self):
        text = "put 1 1; go 1 0"
        for most in (1, 2, 3, 120):
            diary = [end(k, (k - 1) % 2, spot(1, 1) if k % 2 == 1 else None) for k in range(1, most)]
            self.hold(text, {}, diary, [(k % 2,) for k in range(most)], most=most)

    def test_not_while_a_worth_is_owed_or_waits(self):
        diary = [end(1, 0, spot(1)), late(10, 0, 0)]
        self.hold("mul 1 0 0", {"slow": 9}, diary, [(0,)] + [()] * 10)
        diary = [end(1, 0, cell(0, 0)), down(4, 0, 0, 0)]
        self.hold("lay 0 0 0", {"ebb": 4}, diary, [(0,)] + [()] * 4)

    def test_from_a_place_farther_on(self):
        begin = (1, (0,) * 8, (0,) * 16, False, None)
        self.hold("put 1 1; put 2 2; put 3 3", {}, [end(1, 1, spot(2, 2)), end(2, 2, spot(3, 3))],
                  [(1,), (2,), ()], state=begin)


if __name__ == "__main__":
    unittest.main()
