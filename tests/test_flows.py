"""Promises [29] to [31]: walks, what steps hand on, cones and chains."""

import copy
import unittest
from random import Random

from helper import cases, some_thing, some_walk
from twomakes.errors import NoBell, NoHold, NoStep
from twomakes.flows import chain, cone, hands_on, walk_of
from twomakes.plain import run, start
from twomakes.texts import read_mill

FAR = 10 ** 59
NO_THINGS = (
    ("spot", 8), ("spot", -1), ("cell", 16), ("cell", -1), ("spot", FAR), ("cell", -FAR), ("next", 0), ("", 0),
    ("spots", 0), ("Spot", 1), ("put", 1), ("cel", 0), ("cell ", 0),
)


def S(n):
    return ("spot", n)


def C(n):
    return ("cell", n)


def hands_on_by_words(walk, i):
    return [
        j for j in range(i + 1, len(walk))
        if walk[i][2] is not None and walk[i][2] in walk[j][1]
        and not [between for between in range(i + 1, j) if walk[between][2] == walk[i][2]]
    ]


def cone_by_words(walk, time, thing):
    inside = set([i for i in range(time) if walk[i][2] == thing][-1:])
    while True:
        more = {i for i in range(len(walk)) if set(hands_on_by_words(walk, i)) & inside} | inside
        if more == inside:
            return sorted(inside)
        inside = more


class WalkOf(unittest.TestCase):
    def hold(self, text, walk, spots=(), cells=(), most=60, bells=None):
        told = walk_of(read_mill(text), start(list(spots), list(cells)), most, bells)
        self.assertEqual(told, walk)
        self.assertIs(type(told), list)
        self.assertEqual({type(one) for one in told}, {tuple} if walk else set())
        self.assertEqual({type(reads) for _, reads, _ in told}, {list} if walk else set())

    def test_each_kind_of_row(self):
        for text, reads, wrote in (
            ("put 3 9", [], S(3)), ("sum 3 1 2", [S(1), S(2)], S(3)), ("sum 3 2 1", [S(2), S(1)], S(3)),
            ("sum 3 3 3", [S(3)], S(3)), ("mul 0 7 1", [S(7), S(1)], S(0)), ("less 3 2 2", [S(2)], S(3)),
            ("take 3 1 2", [S(1), C(7)], S(3)), ("take 1 1 15", [S(1), C(4)], S(1)), ("take 3 2 0", [S(2), C(4)], S(3)),
            ("lay 3 1 2", [S(3), S(1)], C(7)), ("lay 1 1 15", [S(1)], C(4)), ("lay 1 0 15", [S(1), S(0)], C(15)),
            ("go 1 1", [S(1)], None), ("go 0 0", [S(0)], None), ("shut", [], None), ("open", [], None),
            ("home", [], None),
        ):
            with self.subTest(text=text):
                self.hold(text, [(0, reads, wrote)], [0, 5, 4294967284])

    def test_cells_hang_on_the_spots_by_then(self):
        text = "put 1 3; take 2 1 0; lay 2 2 1; sum 1 1 1; take 2 1 0"
        self.hold(text, [
            (0, [], S(1)), (1, [S(1), C(3)], S(2)), (2, [S(2)], C(10)), (3, [S(1)], S(1)), (4, [S(1), C(6)], S(2)),
        ], cells=[0, 0, 0, 9])

    def test_of_a_run_with_bells(self):
        text = "put 1 5; go 1 0; home | 2"
        walk = [(0, [], S(1)), (2, [], None), (1, [S(1)], None), (0, [], S(1))]
        for most in range(5):
            self.hold(text, walk[:most], most=most, bells=[(1, 0)])
        self.hold(text, [(2, [], None)] + walk[:1], most=2, bells=[(0, 0)])

    def test_of_no_ends(self):
        self.hold("home", [], most=0)
        self.assertEqual(walk_of(read_mill("home"), (1, (0,) * 8, (0,) * 16, False, None), 9), [])

    def test_refused(self):
        for k in (1, -1, FAR):
            for bells in ([(0, k)], [(0, 0), (FAR, k)]):
                self.assertRaises(NoBell, walk_of, read_mill("home | 0"), start([], []), 0, bells)

    def test_beside_the_ends(self):
        for mill, state, _, _, _, bells in cases(150, "walks"):
            for most in (0, 1, 40, 300):
                walk = walk_of(mill, state, most, bells)
                ends = run(mill, state, most, bells)[1]
                with self.subTest(mill=mill, state=state, bells=bells, most=most):
                    self.assertEqual(
                        [(place, wrote) for place, _, wrote in walk],
                        [(place, None if wrote is None else wrote[:2]) for place, wrote in ends],
                    )

    def test_told_lists_are_the_askers_own(self):
        mill, state, bells = read_mill("sum 1 1 2; take 3 1 0; go 1 0 | 1"), start([1], []), [(1, 0)]
        walk = walk_of(mill, state, 9, bells)
        again = copy.deepcopy(walk)
        for _, reads, _ in walk:
            reads.clear()
        walk.clear()
        self.assertEqual(walk_of(mill, state, 9, bells), again)
        self.assertEqual(bells, [(1, 0)])


# 0 and 1 write one thing, 2 reads it and writes what it reads, 3 writes nothing, 5 overwrites and reads
WALK = [
    (0, [], S(1)), (1, [S(2)], S(1)), (2, [S(1), C(0)], C(0)), (3, [S(1)], None), (4, [C(0), S(1)], S(2)),
    (5, [S(1)], S(1)), (6, [S(1), S(2), C(0)], S(3)),
]


class HandsOn(unittest.TestCase):
    def test_by_hand(self):
        for i, told in enumerate(([], [2, 3, 4, 5], [4, 6], [], [6], [6], [])):
            self.assertEqual(hands_on(WALK, i), told)

    def test_a_step_that_writes_what_it_reads(self):
        walk = [(0, [S(1)], S(1)), (0, [S(1)], S(1)), (0, [S(1)], S(1))]
        self.assertEqual([hands_on(walk, i) for i in range(3)], [[1], [2], []])

    def test_overwritten_by_a_step_that_does_not_read_it(self):
        walk = [(0, [], S(1)), (0, [], S(1)), (0, [S(1)], None)]
        self.assertEqual([hands_on(walk, i) for i in range(3)], [[], [2], []])

    def test_spots_and_cells_of_one_number(self):
        walk = [(0, [], S(1)), (0, [], C(1)), (0, [S(1)], None), (0, [C(1)], None)]
        self.assertEqual([hands_on(walk, i) for i in range(4)], [[2], [3], [], []])

    def test_refused(self):
        for walk in ([], WALK[:1], WALK):
            for i in (-1, len(walk), len(walk) + 1, FAR, -FAR, -len(walk)):
                if i != 0 or walk == []:
                    self.assertRaises(NoStep, hands_on, walk, i)

    def test_many(self):
        dice = Random("hands on")
        for _ in range(200):
            walk = some_walk(dice, dice.choice((1, 3, 10, 30)), 3, 2)
            before = copy.deepcopy(walk)
            for i in range(len(walk)):
                told = hands_on(walk, i)
                self.assertEqual(told, hands_on_by_words(walk, i))
                told.append(0)
            self.assertEqual(walk, before)


class Cones(unittest.TestCase):
    def test_by_hand(self):
        for time, thing, told in (
            (0, S(1), []), (1, S(1), [0]), (2, S(1), [1]), (7, S(1), [1, 5]), (5, S(1), [1]), (6, S(1), [1, 5]),
            (7, S(3), [1, 2, 4, 5, 6]), (6, S(3), []), (7, S(2), [1, 2, 4]), (4, S(2), []), (7, C(0), [1, 2]),
            (7, C(15), []), (7, S(7), []), (3, C(0), [1, 2]), (2, C(0), []),
        ):
            with self.subTest(time=time, thing=thing):
                self.assertEqual(cone(WALK, time, thing), told)

    def test_of_no_steps(self):
        self.assertEqual(cone([], 0, S(0)), [])
        self.assertEqual(cone([], 0, C(15)), [])

    def test_refused(self):
        for walk in ([], WALK):
            for time in (-1, len(walk) + 1, FAR, -FAR):
                for thing in (S(1), C(0), ("next", 0)):
                    self.assertRaises(NoHold, cone, walk, time, thing)
                    self.assertRaises(NoHold, chain, walk, 0, time, thing)
            for thing in NO_THINGS:
                for time in (0, len(walk)):
                    self.assertRaises(NoHold, cone, walk, time, thing)
                    self.assertRaises(NoHold, chain, walk, 0, time, thing)

    def test_chains_by_hand(self):
        self.assertEqual(chain(WALK, 6, 7, S(3)), [6])
        self.assertEqual(chain(WALK, 5, 7, S(3)), [5, 6])
        self.assertIn(chain(WALK, 2, 7, S(3)), ([2, 6], [2, 4, 6]))
        self.assertIsNone(chain(WALK, 0, 7, S(3)))
        self.assertIsNone(chain(WALK, 3, 7, S(3)))
        self.assertIsNone(chain(WALK, 6, 6, S(3)))
        self.assertIsNone(chain(WALK, 6, 7, S(2)))
        self.assertIsNone(chain(WALK, 0, 0, S(1)))

    def test_which_refusal_goes_first(self):
        for walk in ([], WALK):
            for i in (-1, len(walk), FAR, -FAR):
                self.assertRaises(NoStep, chain, walk, i, 0, S(1))
                self.assertRaises(NoStep, chain, walk, i, len(walk), C(15))
                self.assertRaises(NoHold, chain, walk, i, len(walk) + 1, S(1))
                self.assertRaises(NoHold, chain, walk, i, -1, S(1))
                self.assertRaises(NoHold, chain, walk, i, 0, ("next", 0))

    def hold_chains(self, walk, time, thing):
        told = cone(walk, time, thing)
        for i in range(len(walk)):
            links = chain(walk, i, time, thing)
            if i not in told:
                self.assertIsNone(links)
                continue
            self.assertIs(type(links), list)
            self.assertEqual((links[0], links[-1]), (i, told[-1]))
            for one, following in zip(links, links[1:]):
                self.assertIn(following, hands_on(walk, one))

    def test_many(self):
        dice = Random("cones")
        for _ in range(300):
            walk = some_walk(dice, dice.choice((0, 1, 3, 10, 20)), 3, 2)
            before = copy.deepcopy(walk)
            time, thing = dice.choice((0, len(walk), dice.randrange(len(walk) + 1))), some_thing(dice, 3, 2)
            told = cone(walk, time, thing)
            with self.subTest(walk=walk, time=time, thing=thing):
                self.assertEqual(told, cone_by_words(walk, time, thing))
                self.hold_chains(walk, time, thing)
            self.assertEqual(walk, before)

    def test_a_hundred_steps_that_each_read_what_the_one_ahead_wrote(self):
        walk = [(0, [S(1), S(2)], S(i % 2 + 1)) for i in range(100)]
        self.assertEqual(cone(walk, 100, S(2)), list(range(100)))
        self.assertEqual(cone(walk, 50, S(2)), list(range(50)))
        self.hold_chains(walk, 100, S(2))
        walk = [(i, [S((i - 1) % 8)], S(i % 8)) for i in range(100)]
        self.assertEqual(cone(walk, 100, S(3)), list(range(100)))
        self.assertEqual(chain(walk, 0, 100, S(3)), list(range(100)))
        self.assertEqual(cone(walk, 100, S(4)), list(range(93)))
        walk = [(i, [S(0), S(1), C(0)], (S(0), S(1), C(0))[i % 3]) for i in range(100)]
        for thing in (S(0), S(1), C(0)):
            self.hold_chains(walk, 100, thing)


if __name__ == "__main__":
    unittest.main()
