"""Promises [24] to [27]: like bells, own rings, settled ends, two diaries apart, and the plain make's diary."""

import copy
import unittest

from helper import bell, cases, cell, down, end, late, spot
from twomakes.errors import NoBell
from twomakes.like import apart, like_bells, own_rings, plain_diary, settled
from twomakes.plain import run, start
from twomakes.texts import read_mill

FAR = 10 ** 59

# bells between and behind, lates out of their order and one that never comes, a down between two bells
DIARY = [
    bell(0, 3), end(1, 0, spot(1)), end(1, 1, spot(2)), bell(2, 0), late(2, 1, 7), end(2, 4, cell(3, 8)),
    bell(5, 1), down(5, 2, 3, 8), bell(6, 2), late(6, 0, 9), end(6, 5, spot(4)), end(7, 6), bell(8, 0), bell(9, 0),
]


class OfOneDiary(unittest.TestCase):
    def test_of_no_events(self):
        for told in (like_bells([]), own_rings([]), settled([])):
            self.assertEqual(told, [])

    def test_like_bells(self):
        self.assertEqual(like_bells(DIARY), [(0, 3), (2, 0), (3, 1), (3, 2), (5, 0), (5, 0)])
        self.assertEqual(like_bells([end(0, 0), down(0, 0, 0, 0), late(0, 0, 0)]), [])
        self.assertEqual(like_bells([bell(-FAR, FAR), bell(3, -1)]), [(0, FAR), (0, -1)])

    def test_own_rings(self):
        self.assertEqual(own_rings(DIARY), [(0, 3), (2, 0), (5, 1), (6, 2), (8, 0), (9, 0)])
        self.assertEqual(own_rings([bell(FAR, 1), bell(0, 0), bell(FAR, 1)]), [(FAR, 1), (0, 0), (FAR, 1)])
        self.assertEqual(own_rings([end(0, 0), end(1, 1)]), [])

    def test_settled(self):
        self.assertEqual(settled(DIARY), [
            (0, spot(1, 9)), (1, spot(2, 7)), (4, cell(3, 8)), (5, spot(4, None)), (6, None),
        ])
        self.assertEqual(settled([bell(0, 0), down(0, 0, 0, 0)]), [])

    def test_settled_of_any_numbers(self):
        diary = [end(-3, FAR, spot(-9)), end(-5, -1, cell(99, -FAR)), late(-9, 0, FAR), end(0, 0, spot(1, -1))]
        self.assertEqual(settled(diary), [(FAR, spot(-9, FAR)), (-1, cell(99, -FAR)), (0, spot(1, -1))])

    def test_a_late_of_0_is_settled(self):
        self.assertEqual(settled([end(0, 0, spot(1)), late(0, 0, 0)]), [(0, spot(1, 0))])

    def test_told_lists_are_new_and_the_diary_stays(self):
        diary = list(DIARY)
        for ask in (like_bells, own_rings, settled):
            told = ask(diary)
            self.assertIs(type(told), list)
            again = copy.deepcopy(told)
            told.clear()
            self.assertEqual(ask(diary), again)
        self.assertEqual(diary, DIARY)


class Apart(unittest.TestCase):
    def hold(self, one, other, told):
        with self.subTest(one=one, other=other):
            self.assertEqual(apart(one, other), told)
            self.assertEqual(apart(other, one), told)
            self.assertIsNone(apart(one, list(one)))
            self.assertIsNone(apart(other, list(other)))

    def test_nowhere(self):
        self.hold([], [], None)
        self.hold(DIARY, [], None)
        self.hold([], [bell(0, 0)], None)
        for count in range(len(DIARY)):
            self.hold(DIARY, DIARY[:count], None)

    def test_bell(self):
        ends = [end(0, 0), end(1, 1), end(2, 2)]
        for n in range(3):
            for more in ([bell(0, 0)], [bell(0, 1), bell(0, 0)]):
                self.hold(ends, ends[:n] + more + ends[n:], (n, "bell"))
        self.hold(ends, ends + [bell(9, 0)], None)
        self.hold([bell(0, 0)] + ends, [bell(0, 1)] + ends, (0, "bell"))
        self.hold([bell(0, 0), bell(0, 1)] + ends, [bell(0, 1), bell(0, 0)] + ends, (0, "bell"))
        self.hold([bell(0, 0), bell(0, 0)] + ends, [bell(0, 0)] + ends, (0, "bell"))
        self.hold(ends[:1] + [bell(0, 0)] + ends[1:], ends[:2] + [bell(0, 0)] + ends[2:], (1, "bell"))

    def test_bells_behind_the_last_end_of_both(self):
        ends = [end(0, 0), end(1, 1)]
        self.hold(ends[:1] + [bell(0, 0)], ends, None)
        self.hold(ends[:1] + [bell(0, 0)], ends[:1] + [bell(0, 1)], None)
        self.hold([bell(0, 0)], [bell(0, 1)] + ends, None)

    def test_whatever_stands_between_the_bells(self):
        one = [end(0, 0, spot(1)), bell(1, 0), bell(1, 1), end(1, 1), late(2, 0, 5)]
        other = [end(5, 0, spot(1)), down(5, 9, 9, 9), bell(7, 0), late(7, 0, 5), bell(9, 1), down(9, 0, 0, 0), end(9, 1)]
        self.hold(one, other, None)
        self.hold(one, other[:4] + other[5:], (1, "bell"))

    def test_place(self):
        self.hold([end(0, 0), end(1, 1)], [end(0, 0), end(1, 2)], (1, "place"))
        self.hold([end(0, 0)], [end(0, FAR)], (0, "place"))
        self.hold([end(0, -1)], [end(5, 0)], (0, "place"))

    def test_thing(self):
        kinds = (None, spot(1, 5), spot(2, 5), cell(1, 5), cell(2, 5))
        for one in kinds:
            for other in kinds:
                self.hold([end(0, 0, one)], [end(1, 0, other)], None if one == other else (0, "thing"))
        self.hold([end(0, 0, spot(1))], [end(0, 0, spot(2))], (0, "thing"))
        self.hold([end(0, 0, spot(1))], [end(0, 0, spot(2, 0))], (0, "thing"))
        self.hold([end(0, 0, spot(1))], [end(0, 0)], (0, "thing"))

    def test_worth(self):
        for kind in (spot, cell):
            self.hold([end(0, 0, kind(1, 5))], [end(0, 0, kind(1, 6))], (0, "worth"))
            self.hold([end(0, 0, kind(1, 0))], [end(0, 0, kind(1, 2 ** 32))], (0, "worth"))
            self.hold([end(0, 0, kind(1, 5))], [end(0, 0, kind(1, 5))], None)

    def test_worth_by_the_settled_ends(self):
        owed, known = [end(0, 0, spot(1)), end(0, 1)], [end(0, 0, spot(1, 5)), end(0, 1)]
        self.hold(owed, known, None)
        self.hold(owed, owed, None)
        self.hold(owed + [late(9, 0, 5)], known, None)
        self.hold(owed + [late(9, 0, 6)], known, (0, "worth"))
        self.hold(owed + [late(9, 0, 0)], known, (0, "worth"))
        self.hold(owed[:1] + [late(9, 0, 6)] + owed[1:], owed + [late(99, 0, 5)], (0, "worth"))
        self.hold(owed + [late(9, 0, 6)], owed, None)

    def test_lates_out_of_their_order(self):
        ends = [end(0, 0, spot(1)), end(0, 1, spot(2))]
        self.hold(ends + [late(1, 0, 5), late(1, 1, 6)], ends + [late(1, 1, 6), late(1, 0, 5)], None)
        self.hold(ends + [late(1, 0, 5), late(1, 1, 6)], ends + [late(1, 1, 7), late(1, 0, 5)], (1, "worth"))

    def test_beats_and_downs_are_not_looked_at(self):
        self.hold([end(0, 0, cell(1, 5)), down(0, 0, 1, 5)], [end(FAR, 0, cell(1, 5)), down(-1, 7, 2, 9)], None)

    def test_two_causes_at_once(self):
        ahead = [end(0, 7)]
        for one, other, cause in (
            ([bell(1, 0), end(1, 1, spot(1, 5))], [end(1, 2, spot(2, 6))], "bell"),
            ([end(1, 1, spot(1, 5))], [end(1, 2, spot(2, 6))], "place"),
            ([end(1, 1, spot(1, 5))], [end(1, 1, spot(2, 6))], "thing"),
            ([end(1, 1, spot(1, 5))], [end(1, 1, cell(1, 6))], "thing"),
            ([end(1, 1, spot(1, 5))], [end(1, 1, spot(1, 6))], "worth"),
        ):
            self.hold(ahead + one, ahead + other, (1, cause))

    def test_the_first_number(self):
        one = [end(0, 0, spot(1, 5)), end(0, 1), bell(0, 0), end(0, 2)]
        other = [end(0, 0, spot(1, 6)), end(0, 2), end(0, 2)]
        self.hold(one, other, (0, "worth"))
        self.hold([end(0, 9)] + one, [end(0, 9)] + other, (1, "worth"))
        # told late, but of the first end
        self.hold(
            [end(0, 0, spot(1)), end(0, 1), late(9, 0, 5)], [end(0, 0, spot(1)), end(0, 2), late(0, 0, 6)], (0, "worth")
        )

    def test_the_diaries_stay(self):
        one, other = list(DIARY), [bell(0, 3), end(1, 0, spot(1)), end(1, 1, spot(2)), late(2, 0, 4)]
        before = copy.deepcopy((one, other))
        self.assertEqual(apart(one, other), (0, "worth"))
        self.assertEqual((one, other), before)


class PlainDiary(unittest.TestCase):
    TEXT = "put 1 5; lay 1 0 3; mul 2 1 1; home | 3 1"

    def hold(self, most, diary, bells=None, text=TEXT):
        told = plain_diary(read_mill(text), start([], []), most, bells)
        self.assertEqual(told, diary)
        self.assertIs(type(told), list)

    def test_without_bells(self):
        whole = [
            end(0, 0, spot(1, 5)), end(1, 1, cell(3, 5)), down(1, 1, 3, 5), end(2, 2, spot(2, 25)), end(3, 3),
        ]
        for most, count in ((0, 0), (1, 1), (2, 3), (3, 4), (4, 5), (300, 5)):
            self.hold(most, whole[:count])
            self.hold(most, whole[:count], [])
        self.assertEqual(plain_diary(read_mill(self.TEXT), start([], []), 1), whole[:1])

    def test_with_bells(self):
        self.hold(300, [
            bell(0, 0), end(0, 3), end(1, 0, spot(1, 5)), bell(2, 1), end(2, 1, cell(3, 5)), down(2, 2, 3, 5),
            end(3, 2, spot(2, 25)), end(4, 3), bell(5, 0), end(5, 3), end(6, 1, cell(3, 5)), down(6, 6, 3, 5),
            end(7, 2, spot(2, 25)), end(8, 3),
        ], [(0, 0), (2, 1), (2, 0)])

    def test_a_bell_behind_the_last_end(self):
        self.hold(0, [bell(0, 0)], [(0, 0)])
        self.hold(0, [], [(1, 0)])
        self.hold(1, [end(0, 0, spot(1, 5)), bell(1, 1)], [(1, 1)])
        self.hold(2, [end(0, 0, spot(1, 5)), end(1, 1, cell(3, 5)), down(1, 1, 3, 5), bell(2, 0)], [(2, 0), (2, 1)])

    def test_a_resting_mill_takes_bells(self):
        self.hold(9, [end(0, 0), bell(1, 1), end(1, 0)], [(1, 1)], "open | 0 0")
        self.hold(9, [end(0, 0)], [(2, 1)], "open | 0 0")

    def test_refused(self):
        for k in (2, -1, FAR, -FAR):
            for most in (0, 9):
                for bells in ([(0, k)], [(0, 0), (FAR, k)], [(FAR, k), (FAR, 0)]):
                    self.assertRaises(NoBell, plain_diary, read_mill(self.TEXT), start([], []), most, bells)
        self.assertRaises(NoBell, plain_diary, read_mill("home"), start([], []), 9, [(9, 0)])

    def test_it_is_the_run(self):
        told_bells = 0
        for mill, state, _, _, _, bells in cases(200, "plain diary"):
            for most in (0, 1, 9, 60):
                diary = plain_diary(mill, state, most, bells)
                with self.subTest(mill=mill, state=state, bells=bells, most=most):
                    self.assertEqual(settled(diary), run(mill, state, most, bells)[1])
                    self.assertEqual(like_bells(diary), own_rings(diary))
                    self.assertEqual(run(mill, state, most, like_bells(diary)), run(mill, state, most, bells))
                    told_bells += len(own_rings(diary))
        self.assertGreater(told_bells, 100)

    def test_what_is_handed_in_stays(self):
        for mill, state, _, _, _, bells in cases(30, "plain diary stays"):
            before = copy.deepcopy((mill, state, bells))
            plain_diary(mill, state, 30, bells).clear()
            self.assertEqual((mill, state, bells), before)


if __name__ == "__main__":
    unittest.main()
