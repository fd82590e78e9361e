"""Promise [18]: slips of long makes."""

import unittest

from helper import WIDE, bell, cases, cell, down, end, late, lay, settled, spot
from twomakes.long import led_run, rung_run
from twomakes.plain import start
from twomakes.texts import read_mill

GREATEST_WORTH = 4294967295
FAR = 10 ** 59


class Slips(unittest.TestCase):
    def hold(self, text, slips, diary, state, numbers=None, spots=(), cells=(), most=60):
        for make in (rung_run, led_run):
            with self.subTest(text=text, slips=slips, make=make.__name__):
                begin = start(list(spots), list(cells))
                told = make(read_mill(text), begin, lay(**(numbers or {})), most, None, slips)
                self.assertEqual(told[1], diary)
                self.assertEqual((told[0][1], told[0][2]), (start(*state)[1], start(*state)[2]))

    def test_the_make_goes_on_with_the_changed_worth(self):
        for add, first, second in (
            (3, 8, 16), (-5, 0, 0), (-6, GREATEST_WORTH, GREATEST_WORTH - 1), (GREATEST_WORTH, 4, 8),
            (2 ** 190 + 1, 6, 12), (1 - 2 ** 190, 6, 12),
        ):
            diary = [end(1, 0, spot(1, first)), end(2, 1, spot(2, second))]
            self.hold("put 1 5; sum 2 1 1", [(0, add)], diary, ([0, first, second], []))

    def test_of_each_end_by_its_number(self):
        for n, worths in enumerate(((6, 12, 18), (5, 11, 16), (5, 10, 16))):
            diary = [end(1, 0, spot(1, worths[0])), end(2, 1, spot(2, worths[1])), end(3, 2, spot(3, worths[2]))]
            self.hold("put 1 5; sum 2 1 1; sum 3 1 2", [(n, 1)], diary, ([0, *worths], []))

    def test_by_the_end_not_by_the_place(self):
        diary = [end(1, 0, spot(1, 2)), end(2, 1), end(3, 0, spot(1, 4)), end(4, 1)]
        self.hold("sum 1 1 2; go 1 0", [(2, 1)], diary, ([0, 4, 1], []), spots=[0, 1, 1], most=5)

    def test_of_slow_rows(self):
        diary = [end(1, 0, spot(1)), late(2, 0, 12), end(2, 1, spot(2, 12))]
        self.hold("mul 1 3 3; sum 2 1 0", [(0, 3)], diary, ([0, 12, 12, 3], []), spots=[0, 0, 0, 3])
        diary = [end(1, 0, spot(1)), late(2, 0, GREATEST_WORTH), end(2, 1, spot(2, GREATEST_WORTH))]
        state = ([0, GREATEST_WORTH, GREATEST_WORTH], [7])
        self.hold("take 1 0 0; sum 2 1 0", [(0, -8)], diary, state, cells=[7])

    def test_of_lays(self):
        diary = [
            end(1, 0, cell(0, 12)), end(1, 1, spot(2)), late(2, 1, 12), down(4, 0, 0, 12),
        ]
        self.hold("lay 1 0 0; take 2 0 0", [(0, 7)], diary, ([0, 5, 12], [12]), dict(WIDE, ebb=4), [0, 5])

    def test_of_less_and_a_go_that_hangs_on_it(self):
        diary = [end(1, 0, spot(1, 1)), end(2, 1), end(3, 3, spot(3, 7))]
        self.hold("less 1 0 0; go 1 3; put 2 6; put 3 7", [(0, 1)], diary, ([0, 1, 0, 7], []))

    def test_of_the_spot_behind_a_cell(self):
        diary = [end(1, 0, spot(1, 4)), end(2, 1, cell(4, 4)), down(3, 1, 4, 4)]
        self.hold("put 1 3; lay 1 1 0", [(0, 1)], diary, ([0, 4], [0, 0, 0, 0, 4]))

    def test_of_rows_that_write_nothing(self):
        diary = [end(1, 0), end(2, 1), end(3, 2), end(4, 3)]
        for n in range(4):
            self.hold("shut; open; go 0 0; home", [(n, 5)], diary, ([], []))

    def test_several_of_one_end(self):
        for slips, worth in (
            ([(0, 1), (0, 2), (0, 3)], 11), ([(0, 9), (1, 100), (0, -9)], 5), ([(0, FAR), (0, 1), (0, -FAR)], 6),
            ([(0, 2), (0, 2)], 9), ([(0, -6), (0, -1)], GREATEST_WORTH - 1),
        ):
            self.hold("put 1 5; home", slips, [end(1, 0, spot(1, worth)), end(2, 1)], ([0, worth], []))

    def test_several_of_several_ends_in_any_order(self):
        diary = [end(1, 0, spot(1, 6)), end(2, 1, spot(2, 14))]
        self.hold("put 1 5; sum 2 1 1", [(1, 2), (0, 1)], diary, ([0, 6, 14], []))

    def test_ones_that_change_nothing(self):
        diary = [end(1, 0, spot(1, 5)), end(2, 1, spot(2, 10))]
        for slips in ([], [(0, 0)], [(0, 2 ** 32)], [(0, -2 ** 32), (1, 0)], [(1, 2 ** 64), (1, -2 ** 64)]):
            self.hold("put 1 5; sum 2 1 1", slips, diary, ([0, 5, 10], []))

    def test_ones_beyond_the_last_end(self):
        diary = [end(1, 0, spot(1, 5)), end(2, 1, spot(2, 10))]
        for n in (2, 3, 60, FAR):
            self.hold("put 1 5; sum 2 1 1", [(n, 1)], diary, ([0, 5, 10], []))

    def test_bells_are_no_ends(self):
        mill, begin = read_mill("put 1 5; home | 1"), start([], [])
        diary = [bell(0, 0), end(1, 1), end(2, 0, spot(1, 7)), end(3, 1)]
        for make in (rung_run, led_run):
            self.assertEqual(make(mill, begin, lay(), 20, [(0, 0)], [(1, 2)])[1], diary)

    def test_a_slip_changes_nothing_ahead_of_its_end(self):
        changed = 0
        for number, (mill, state, numbers, most, rings, bells) in enumerate(cases(300, "slips")):
            n = number % 12
            for make, pairs in ((rung_run, rings), (led_run, bells)):
                right = make(mill, state, numbers, most, pairs)[1]
                wrong = make(mill, state, numbers, most, pairs, [(n, 1)])[1]
                ends = (settled(right), settled(wrong))
                if len(ends[0]) <= n:
                    self.assertEqual(wrong, right)
                    continue
                with self.subTest(mill=mill, state=state, numbers=numbers, n=n, make=make.__name__):
                    for one, other in list(zip(*ends))[:n]:
                        self.assertTrue(one == other or None in (one[1] or ())[2:] + (other[1] or ())[2:])
                    (place, wrote), (other_place, slipped) = ends[0][n], ends[1][n]
                    self.assertEqual(other_place, place)
                    if wrote is None or wrote[2] is None:
                        self.assertEqual(slipped, wrote)
                    else:
                        self.assertEqual(slipped, (wrote[0], wrote[1], (wrote[2] + 1) % 2 ** 32))
                        changed += 1
        self.assertGreater(changed, 60)


if __name__ == "__main__":
    unittest.main()
