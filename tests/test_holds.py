"""Promises [32] to [34]: standing worths, unread and unseen steps, holds at places, and the least holds."""

import copy
import unittest
from itertools import combinations
from random import Random

from helper import cases, some_thing, some_walk
from twomakes.errors import NoHold, NoStep
from twomakes.flows import cone, hands_on, walk_of
from twomakes.holds import holds_at, least_holds, lone_steps, stands, unread, unseen

FAR = 10 ** 59
NO_THINGS = (
    ("spot", 8), ("spot", -1), ("cell", 16), ("cell", -1), ("spot", FAR), ("next", 0), ("", 0), ("spots", 0),
)


def S(n):
    return ("spot", n)


def C(n):
    return ("cell", n)


# 0 is overwritten at once; 1 is read by 2 (which writes) and 3 (which does not); 2 is read by 3 alone
WALK = [
    (7, [], S(1)), (8, [], S(1)), (9, [S(1)], C(4)), (7, [S(1), C(4)], None), (7, [], C(4)), (-1, [S(2)], S(2)),
]


class Stands(unittest.TestCase):
    def test_by_hand(self):
        for i, told in ((0, (1, 1)), (1, (2, 6)), (2, (3, 4)), (4, (5, 6)), (5, (6, 6))):
            self.assertEqual(stands(WALK, i), told)

    def test_refused(self):
        for i in (3, -1, 6, 7, -3, FAR, -FAR):
            self.assertRaises(NoStep, stands, WALK, i)
        for i in (0, -1, 1):
            self.assertRaises(NoStep, stands, [], i)
        self.assertRaises(NoStep, stands, [(0, [S(1)], None)], 0)

    def test_while_it_stands_its_cone_has_it_last(self):
        dice = Random("stands")
        for _ in range(100):
            walk = some_walk(dice, 12, 2, 2)
            for i, (_, _, wrote) in enumerate(walk):
                if wrote is not None:
                    first, last = stands(walk, i)
                    times = [time for time in range(len(walk) + 1) if cone(walk, time, wrote)[-1:] == [i]]
                    self.assertEqual(times, list(range(first, last + 1)))


class Unread(unittest.TestCase):
    def test_by_hand(self):
        self.assertEqual(unread(WALK), [0, 2, 4, 5])
        self.assertEqual(unread([]), [])
        self.assertEqual(unread([(0, [S(1)], None)]), [])
        self.assertEqual(unread([(0, [S(1)], S(1))]), [0])
        self.assertEqual(unread([(0, [S(1)], S(1))] * 3), [2])

    def test_many(self):
        dice = Random("unread")
        for _ in range(100):
            walk = some_walk(dice, 15, 3, 2)
            self.assertEqual(unread(walk), [
                i for i, (_, _, wrote) in enumerate(walk)
                if wrote is not None and not [j for j in hands_on(walk, i) if walk[j][2] is not None]
            ])


class Unseen(unittest.TestCase):
    def test_by_hand(self):
        self.assertEqual(unseen(WALK, []), [0, 1, 2, 4, 5])
        self.assertEqual(unseen(WALK, [(1, S(1))]), [1, 2, 4, 5])
        self.assertEqual(unseen(WALK, [(6, S(1))]), [0, 2, 4, 5])
        self.assertEqual(unseen(WALK, [(4, C(4))]), [0, 4, 5])
        self.assertEqual(unseen(WALK, [(4, C(4)), (4, C(4)), (0, C(4)), (5, S(2)), (6, C(9))]), [0, 4, 5])
        self.assertEqual(unseen(WALK, [(1, S(1)), (3, C(4)), (6, C(4)), (6, S(2))]), [])
        self.assertEqual(unseen([], []), [])
        self.assertEqual(unseen([], [(0, S(1))]), [])

    def test_refused(self):
        for walk in ([], WALK):
            for wrong in [(-1, S(1)), (len(walk) + 1, S(1)), (FAR, C(0))] + [(0, thing) for thing in NO_THINGS]:
                for holds in ([wrong], [(0, S(1)), wrong], [wrong, (0, S(1))]):
                    self.assertRaises(NoHold, unseen, walk, holds)

    def test_many(self):
        dice = Random("unseen")
        for _ in range(150):
            walk = some_walk(dice, dice.choice((1, 5, 12)), 3, 2)
            holds = [(dice.randrange(len(walk) + 1), some_thing(dice, 3, 2)) for _ in range(dice.randrange(5))]
            before = copy.deepcopy((walk, holds))
            seen = {i for time, thing in holds for i in cone(walk, time, thing)}
            written = {i for i, (_, _, wrote) in enumerate(walk) if wrote is not None}
            self.assertEqual(unseen(walk, holds), sorted(written - seen))
            self.assertEqual((walk, holds), before)

    def test_four_hundred_holds(self):
        walk = [(0, [S(i % 8), C(i % 16)], S((i + 1) % 8)) for i in range(100)]
        holds = [(time, S(spot)) for time in range(0, 100, 2) for spot in range(8)]
        self.assertEqual(len(holds), 400)
        self.assertEqual(unseen(walk, holds), [98, 99])
        self.assertEqual(unseen(walk, holds + [(100, S(4))]), [])


class HoldsAt(unittest.TestCase):
    def test_by_hand(self):
        self.assertEqual(holds_at(WALK, [7], [S(1)]), [(0, S(1)), (3, S(1)), (4, S(1))])
        self.assertEqual(
            holds_at(WALK, [9, -1, 9], [S(2), C(9), S(2), C(1)]),
            [(2, C(1)), (2, C(9)), (2, S(2)), (5, C(1)), (5, C(9)), (5, S(2))],
        )
        self.assertEqual(holds_at(WALK, [], [S(1)]), [])
        self.assertEqual(holds_at(WALK, [7], []), [])
        self.assertEqual(holds_at([], [7], [S(1)]), [])

    def test_places_that_no_step_has(self):
        self.assertEqual(holds_at(WALK, [0, 6, 10, FAR, -FAR], [S(1), C(15)]), [])
        self.assertEqual(holds_at(WALK, [0, 8, FAR], [S(1)]), [(1, S(1))])

    def test_refused(self):
        for thing in NO_THINGS:
            for walk in ([], WALK):
                for places in ([], [7], [0], [FAR]):
                    for things in ([thing], [S(1), thing], [thing, C(0)]):
                        self.assertRaises(NoHold, holds_at, walk, places, things)

    def test_what_is_told_may_be_held(self):
        walk = [(i % 3, [S(i % 8)], S((i + 1) % 8)) for i in range(100)]
        things = [S(spot) for spot in range(8)] + [C(cell) for cell in range(16)]
        holds = holds_at(walk, [0, 1, 2], things)
        self.assertEqual(len(holds), 2400)
        self.assertEqual(holds, sorted(holds))
        self.assertEqual(unseen(walk, holds), [99])

    def test_what_is_handed_in_stays(self):
        walk, places, things = copy.deepcopy(WALK), [8, 7, 8], [S(3), C(2), S(3)]
        holds_at(walk, places, things).clear()
        self.assertEqual((walk, places, things), (WALK, [8, 7, 8], [S(3), C(2), S(3)]))


class Least(unittest.TestCase):
    def hold(self, walk):
        before = copy.deepcopy(walk)
        holds, lone = least_holds(walk), lone_steps(walk)
        self.assertEqual(holds, sorted(set(holds)))
        self.assertEqual(len(holds), len(unread(walk)))
        self.assertEqual(unseen(walk, holds), [])
        self.assertEqual(lone, sorted(set(lone)))
        self.assertEqual(len(lone), len({time for time, _ in holds}))
        self.assertEqual([i for i in lone if i not in unread(walk)], [])
        for one, other in combinations(lone, 2):
            first, last = stands(walk, one), stands(walk, other)
            self.assertTrue(first[1] < last[0] or last[1] < first[0])
        self.assertEqual((type(holds), type(lone)), (list, list))
        self.assertEqual(walk, before)
        holds.clear()
        lone.append(5)
        return least_holds(walk)

    def hold_by_trying_all(self, walk):
        holds = self.hold(walk)
        things = sorted({wrote for _, _, wrote in walk if wrote is not None})
        every = [(time, thing) for time in range(len(walk) + 1) for thing in things]
        cones = {one: set(cone(walk, *one)) for one in every}
        written = {i for i, (_, _, wrote) in enumerate(walk) if wrote is not None}
        for fewer in combinations(every, len(holds) - 1) if holds else ():
            self.assertFalse(written <= set().union(*(cones[one] for one in fewer)))
        times = len({time for time, _ in holds})
        for fewer in combinations(range(len(walk) + 1), times - 1) if holds else ():
            self.assertFalse(written <= set().union(*(cones[one] for one in every if one[0] in fewer)))

    def test_by_hand(self):
        self.assertEqual([time for time, _ in self.hold(WALK)][0], 1)
        self.assertEqual(len({time for time, _ in self.hold(WALK)}), 3)
        self.assertEqual((least_holds([]), lone_steps([])), ([], []))
        self.assertEqual((least_holds([(0, [S(1)], None)]), lone_steps([(0, [S(1)], None)])), ([], []))
        self.assertEqual((least_holds([(0, [], C(3))]), lone_steps([(0, [], C(3))])), ([(1, C(3))], [0]))

    def test_one_time_for_all(self):
        walk = [(0, [], S(spot)) for spot in range(8)]
        self.assertEqual(self.hold(walk), [(8, S(spot)) for spot in range(8)])
        self.assertEqual(len(lone_steps(walk)), 1)

    def test_a_time_for_each(self):
        walk = [(0, [], S(3)) for _ in range(100)]
        self.assertEqual(self.hold(walk), [(time, S(3)) for time in range(1, 101)])
        self.assertEqual(lone_steps(walk), list(range(100)))

    def test_long_stands_over_short_ones(self):
        walk = [(0, [], S(0)), (0, [], S(1)), (0, [], S(1)), (0, [], S(2)), (0, [], S(1)), (0, [], S(0))]
        self.hold_by_trying_all(walk)
        self.hold_by_trying_all([(0, [], C(0)), (0, [], C(1)), (0, [], C(0)), (0, [], C(1)), (0, [], C(0))])

    def test_small_walks_by_trying_all(self):
        dice = Random("least")
        for _ in range(250):
            walk = some_walk(dice, dice.randrange(7), 2, 1)
            with self.subTest(walk=walk):
                self.hold_by_trying_all(walk)

    def test_long_walks(self):
        dice = Random("least of long ones")
        for _ in range(40):
            self.hold(some_walk(dice, 100, dice.choice((1, 2, 8)), dice.choice((1, 16))))
        self.hold([(i, [S((i - 1) % 8)], S(i % 8)) for i in range(100)])

    def test_walks_of_runs(self):
        for mill, state, _, _, _, bells in cases(100, "least of runs"):
            with self.subTest(mill=mill, state=state, bells=bells):
                self.hold(walk_of(mill, state, 60, bells))


if __name__ == "__main__":
    unittest.main()
