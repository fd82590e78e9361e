"""Promises [35] to [38]: papers, what is first seen, what things hang on, and suspects."""

import copy
import unittest
from random import Random

from helper import cases, cell, some_thing, some_walk, spot
from twomakes.errors import NoHold
from twomakes.flows import walk_of
from twomakes.holds import holds_at, least_holds
from twomakes.like import like_bells, settled
from twomakes.long import led_run, rung_run
from twomakes.plain import run, start
from twomakes.suspects import first_seen, hangs, paper, suspects
from twomakes.texts import read_mill

FAR = 10 ** 59
NEXT = ("next", 0)
NO_THINGS = (
    ("spot", 8), ("spot", -1), ("cell", 16), ("cell", -1), ("spot", FAR), ("cell", -FAR), ("", 0), ("spots", 0),
)
NEAR_NEXT = (("next", 1), ("next", -1), ("next", FAR), ("Next", 0), ("nex", 0), ("next ", 0))
STATE = (0, (10, 11, 12, 13, 14, 15, 16, 17), tuple(range(100, 116)), False, None)
ENDS = [(0, spot(1, 5)), (1, None), (2, cell(1, 6)), (3, spot(1)), (4, spot(2, 0)), (5, cell(1, 8)), (6, spot(1, 9))]


def S(n):
    return ("spot", n)


def C(n):
    return ("cell", n)


class Papers(unittest.TestCase):
    def test_by_hand(self):
        for time, thing, worth in (
            (0, S(1), 11), (1, S(1), 5), (3, S(1), 5), (4, S(1), None), (6, S(1), None), (7, S(1), 9), (0, C(1), 101),
            (2, C(1), 101), (3, C(1), 6), (5, C(1), 6), (6, C(1), 8), (7, C(1), 8), (7, S(2), 0), (4, S(2), 12),
            (7, S(7), 17), (7, C(15), 115), (0, S(0), 10), (0, C(0), 100),
        ):
            with self.subTest(time=time, thing=thing):
                self.assertEqual(paper(STATE, ENDS, [(time, thing)]), [worth])

    def test_one_worth_for_each_hold(self):
        holds = [(7, S(1)), (0, C(2)), (7, S(1)), (4, S(1)), (0, S(1)), (7, S(1))]
        self.assertEqual(paper(STATE, ENDS, holds), [9, 102, 9, None, 11, 9])
        self.assertEqual(paper(STATE, ENDS, []), [])
        self.assertEqual(paper(STATE, [], []), [])
        self.assertEqual(paper(STATE, [], [(0, S(3)), (0, C(3))]), [13, 103])

    def test_refused(self):
        for ends in ([], ENDS):
            wrong = [(-1, S(1)), (len(ends) + 1, S(1)), (FAR, C(0)), (-FAR, C(0))]
            for hold in wrong + [(0, thing) for thing in NO_THINGS + NEAR_NEXT + (NEXT,)]:
                for holds in ([hold], [(0, S(1)), hold], [hold, (0, S(1))]):
                    self.assertRaises(NoHold, paper, STATE, ends, holds)

    def test_beside_the_states_of_runs(self):
        for mill, state, _, _, _, bells in cases(60, "papers"):
            behind, ends = run(mill, state, 40, bells)
            things = [S(n) for n in range(8)] + [C(n) for n in range(16)]
            self.assertEqual(paper(state, ends, [(0, thing) for thing in things]), list(state[1] + state[2]))
            told = paper(state, ends, [(len(ends), thing) for thing in things])
            self.assertEqual(told, list(behind[1] + behind[2]))

    def test_most_ends_and_holds(self):
        ends = [(n, spot(n % 8, n)) for n in range(300)]
        holds = [(n % 301, S(n % 8)) for n in range(400)]
        told = paper(STATE, ends, holds)
        self.assertEqual((len(told), told[300], told[8]), (400, 292, 0))

    def test_what_is_handed_in_stays(self):
        ends, holds = copy.deepcopy(ENDS), [(7, S(1)), (0, C(2))]
        paper(STATE, ends, holds).clear()
        self.assertEqual((ends, holds), (ENDS, [(7, S(1)), (0, C(2))]))


class FirstSeen(unittest.TestCase):
    EVERY = [(time, thing) for time in range(9) for thing in (C(1), C(3), S(1), S(2))]

    def hold(self, ones, others, holds, told):
        with self.subTest(ones=ones, others=others, holds=holds):
            self.assertEqual(first_seen(STATE, ones, others, holds), told)
            self.assertEqual(first_seen(STATE, others, ones, holds), told)
            self.assertEqual(first_seen(STATE, ones, others, holds[::-1] + holds), told)
            self.assertIsNone(first_seen(STATE, ones, ones, holds))

    def test_alike(self):
        self.hold(ENDS, ENDS, self.EVERY, None)
        self.hold(ENDS, ENDS[:3], self.EVERY, None)
        self.hold(ENDS, [], self.EVERY, None)
        self.hold([], [], [], None)
        self.hold([], [], [(0, S(1)), (FAR, S(1))], None)

    def test_unlike_in_a_worth(self):
        other = [(0, spot(1, 7))] + ENDS[1:]
        self.hold(ENDS, other, self.EVERY, (1, [S(1)]))
        self.hold(ENDS, other, [(3, S(1)), (2, S(1)), (2, S(2))], (2, [S(1)]))
        self.hold(ENDS, other, [(0, S(1)), (4, S(1)), (7, S(1))], None)
        self.hold(ENDS, other, [], None)

    def test_unlike_in_a_thing(self):
        other = [(0, spot(2, 5))] + ENDS[1:]
        self.hold(ENDS, other, self.EVERY, (1, [S(1), S(2)]))
        self.hold(ENDS, other, [(1, S(2)), (2, S(1))], (1, [S(2)]))
        other = ENDS[:2] + [(2, cell(3, 6))] + ENDS[3:]
        self.hold(ENDS, other, self.EVERY, (3, [C(1), C(3)]))
        other = ENDS[:2] + [(2, spot(1, 6))] + ENDS[3:]
        self.hold(ENDS, other, self.EVERY, (3, [C(1), S(1)]))
        other = ENDS[:2] + [(2, None)] + ENDS[3:]
        self.hold(ENDS, other, self.EVERY, (3, [C(1)]))

    def test_unlike_in_a_place(self):
        other = ENDS[:2] + [(9, cell(1, 6))] + ENDS[3:]
        self.hold(ENDS, other, self.EVERY, (2, [NEXT]))
        self.hold(ENDS, other, [], (2, [NEXT]))
        self.hold(ENDS, [(9, None)] + ENDS[1:], [], (0, [NEXT]))
        self.hold(ENDS, ENDS[:6] + [(9, None)], [], (6, [NEXT]))
        self.hold(ENDS, ENDS[:6] + [(9, None)], [(7, S(1))], (6, [NEXT]))

    def test_a_place_that_only_one_has(self):
        self.hold(ENDS, ENDS[:4] + [(9, None)], [], (4, [NEXT]))
        self.hold(ENDS, ENDS[:4], [], None)
        self.hold(ENDS[:5] + [(9, None)], ENDS[:5], [(5, S(2))], None)

    def test_next_among_the_things(self):
        other = [(0, spot(1, 7)), (7, None)] + ENDS[2:]
        self.hold(ENDS, other, self.EVERY, (1, [NEXT, S(1)]))
        other = [(0, cell(1, 7)), (7, None)] + ENDS[2:]
        self.hold(ENDS, other, self.EVERY, (1, [C(1), NEXT, S(1)]))
        self.hold(ENDS, other, [(1, S(1)), (1, S(1)), (1, S(2))], (1, [NEXT, S(1)]))

    def test_owed_worths_are_not_unlike(self):
        other = ENDS[:3] + [(3, spot(1, 77))] + ENDS[4:]
        self.hold(ENDS, other, self.EVERY, None)
        other = ENDS[:3] + [(3, spot(2, 77))] + ENDS[4:]
        self.hold(ENDS, other, self.EVERY, (4, [S(2)]))
        self.hold(ENDS, ENDS[:4] + [(4, spot(2))] + ENDS[5:], self.EVERY, None)

    def test_a_worth_of_0_is_unlike(self):
        self.hold(ENDS, ENDS[:4] + [(4, spot(2, 1))] + ENDS[5:], self.EVERY, (5, [S(2)]))
        self.hold(ENDS, [(0, spot(1, 0))] + ENDS[1:], self.EVERY, (1, [S(1)]))

    def test_at_the_last_time_and_beyond(self):
        other = ENDS[:6] + [(6, spot(1, 8))]
        self.hold(ENDS, other, [(7, S(1))], (7, [S(1)]))
        self.hold(ENDS + [(7, None)], other, [(7, S(1))], (7, [S(1)]))
        self.hold(ENDS + [(7, None)], other, [(8, S(1)), (9, S(1)), (FAR, S(1))], None)
        self.hold(ENDS, other[:6], [(7, S(1)), (8, S(1))], None)

    def test_refused(self):
        other = [(9, None)] + ENDS[1:]
        for ones, others in ((ENDS, ENDS), (ENDS, other), ([], []), (ENDS, [])):
            wrong = [(-1, S(1)), (-FAR, C(0)), (-1, NEXT)]
            for time in (0, 7, 8, FAR):
                wrong += [(time, thing) for thing in NO_THINGS + NEAR_NEXT + (NEXT,)]
            for hold in wrong:
                for holds in ([hold], [(0, S(1)), hold], [hold, (FAR, S(1))]):
                    self.assertRaises(NoHold, first_seen, STATE, ones, others, holds)

    def test_by_words_for_many(self):
        dice = Random("first seen")
        told_some = 0
        for _ in range(300):
            lists = []
            for _ in range(2):
                ends = []
                for _ in range(dice.randrange(7)):
                    thing = some_thing(dice, 2, 2)
                    worth = dice.choice((0, 1, 1, None if thing[0] == "spot" else 1))
                    ends.append((dice.choice((0,) * 8 + (1,)), dice.choice((None, thing + (worth,)))))
                lists.append(ends)
            holds = [(dice.randrange(8), some_thing(dice, 2, 2)) for _ in range(dice.randrange(6))]
            before = copy.deepcopy((lists, holds))
            shorter = min(len(lists[0]), len(lists[1]))
            seen = []
            for time in range(shorter + 1):
                things = set()
                for at, thing in holds:
                    one, other = (paper(STATE, ends, [(time, thing)])[0] for ends in lists)
                    if at == time and None not in (one, other) and one != other:
                        things.add(thing)
                if time < shorter and lists[0][time][0] != lists[1][time][0]:
                    things.add(NEXT)
                if things:
                    seen.append((time, sorted(things)))
            told = first_seen(STATE, lists[0], lists[1], holds)
            self.assertEqual(told, seen[0] if seen else None)
            self.assertEqual((lists, holds), before)
            told_some += told is not None
        self.assertGreater(told_some, 50)


def hangs_by_words(walk, time, thing, gone=None):
    """Step by step as [37] tells it, each thing at each time once."""
    gone = set() if gone is None else gone
    if (time, thing) in gone:
        return set()
    gone.add((time, thing))
    told = set()
    if thing == NEXT:
        for i in range(time):
            if walk[i][2] is None:
                for read in walk[i][1]:
                    told |= hangs_by_words(walk, i, read, gone)
        return told
    j = max((i for i in range(time) if walk[i][2] == thing), default=None)
    if j is not None:
        told.add(j)
        for read in walk[j][1]:
            told |= hangs_by_words(walk, j, read, gone)
    if thing[0] == "cell":
        for i in range(0 if j is None else j, time):
            if walk[i][2] is not None and walk[i][2][0] == "cell" and walk[i][1]:
                told |= hangs_by_words(walk, i, walk[i][1][-1], gone)
    return told


class Hangs(unittest.TestCase):
    # put 1; put 2; lay 1 at 2; put 3; lay 3 at 3; go 2; sum 1 of 1 and 3; put 2
    WALK = [
        (0, [], S(1)), (1, [], S(2)), (2, [S(1), S(2)], C(4)), (3, [], S(3)), (4, [S(3)], C(5)), (5, [S(2)], None),
        (6, [S(1), S(3)], S(1)), (7, [], S(2)),
    ]

    def test_of_spots(self):
        for time, thing, told in (
            (0, S(1), []), (1, S(1), [0]), (6, S(1), [0]), (7, S(1), [0, 3, 6]), (8, S(1), [0, 3, 6]),
            (7, S(2), [1]), (8, S(2), [7]), (8, S(3), [3]), (3, S(3), []), (8, S(7), []),
        ):
            self.assertEqual(hangs(self.WALK, time, thing), told)

    def test_of_cells(self):
        for time, thing, told in (
            # no one wrote them: the ways to all cells that were written
            (2, C(9), []), (3, C(9), [1]), (5, C(9), [1, 3]), (8, C(0), [1, 3]),
            # written at 2: what 2 reads, and from there on the ways to other cells
            (2, C(4), []), (3, C(4), [0, 1, 2]), (4, C(4), [0, 1, 2]), (5, C(4), [0, 1, 2, 3]), (8, C(4), [0, 1, 2, 3]),
            # written at 4: those ahead of it are not asked
            (4, C(5), [1]), (5, C(5), [3, 4]), (8, C(5), [3, 4]),
        ):
            with self.subTest(time=time, thing=thing):
                self.assertEqual(hangs(self.WALK, time, thing), told)

    def test_of_next(self):
        for time, told in ((0, []), (5, []), (6, [1]), (8, [1])):
            self.assertEqual(hangs(self.WALK, time, NEXT), told)
        walk = [(0, [], S(0)), (1, [S(0)], S(1)), (2, [S(1), S(2)], None), (3, [], None), (4, [S(0)], None)]
        self.assertEqual([hangs(walk, time, NEXT) for time in range(6)], [[], [], [], [0, 1], [0, 1], [0, 1]])

    def test_a_cell_that_is_read_through_a_spot(self):
        # a take hangs on its spot and its cell, the cell on the ways to others
        walk = [(0, [], S(1)), (1, [], S(2)), (2, [S(2), S(1)], C(3)), (3, [S(4), C(9)], S(5)), (4, [S(5)], None)]
        self.assertEqual(hangs(walk, 5, S(5)), [0, 3])
        self.assertEqual(hangs(walk, 5, NEXT), [0, 3])
        self.assertEqual(hangs(walk, 4, NEXT), [])

    def test_steps_that_read_nothing(self):
        walk = [(0, [], C(1)), (1, [], C(2)), (2, [], None), (3, [], S(1))]
        self.assertEqual([hangs(walk, 4, thing) for thing in (C(1), C(2), C(3), S(1), NEXT)], [[0], [1], [], [3], []])

    def test_a_step_that_writes_what_it_reads(self):
        walk = [(0, [S(1)], S(1)), (1, [S(1)], S(1)), (2, [C(1)], C(1)), (3, [S(1), C(1)], C(1))]
        self.assertEqual(hangs(walk, 2, S(1)), [0, 1])
        self.assertEqual(hangs(walk, 1, S(1)), [0])
        self.assertEqual(hangs(walk, 3, C(1)), [2])
        self.assertEqual(hangs(walk, 4, C(1)), [0, 1, 2, 3])

    def test_of_no_steps(self):
        for thing in (S(0), C(15), NEXT):
            self.assertEqual(hangs([], 0, thing), [])
            self.assertEqual(suspects([], (0, [thing])), [])

    def test_refused(self):
        for walk in ([], self.WALK):
            wrong = [(time, thing) for time in (-1, len(walk) + 1, FAR, -FAR) for thing in (S(1), C(1), NEXT, S(8))]
            wrong += [(time, thing) for time in (0, len(walk)) for thing in NO_THINGS + NEAR_NEXT]
            for time, thing in wrong:
                self.assertRaises(NoHold, hangs, walk, time, thing)
                for things in ([thing], [S(1), thing], [thing, NEXT], [NEXT, C(0), thing]):
                    self.assertRaises(NoHold, suspects, walk, (time, things))

    def test_many_by_words(self):
        dice = Random("hangs")
        for _ in range(400):
            walk = some_walk(dice, dice.choice((0, 1, 4, 10, 25)), 3, 3)
            before = copy.deepcopy(walk)
            for thing in (S(0), C(0), C(1), C(9), NEXT):
                for time in {0, len(walk) // 2, len(walk)}:
                    with self.subTest(walk=walk, time=time, thing=thing):
                        told = hangs(walk, time, thing)
                        self.assertEqual(told, sorted(hangs_by_words(walk, time, thing)))
                        told.clear()
            self.assertEqual(walk, before)

    def test_a_hundred_steps_read_again_and_again(self):
        walk = [(0, [S(0), S(1), C(0)], (S(0), S(1), C(0))[i % 3]) for i in range(100)]
        for thing in (S(0), S(1), C(0)):
            self.assertEqual(hangs(walk, 97, thing)[-1], {S(0): 96, S(1): 94, C(0): 95}[thing])
            self.assertGreater(len(hangs(walk, 100, thing)), 95)
        walk = [(0, [C(i % 16), C((i + 5) % 16), S(i % 8)], C((i + 1) % 16)) for i in range(100)]
        self.assertEqual(hangs(walk, 100, C(3)), sorted(hangs_by_words(walk, 100, C(3))))
        walk[50] = (0, [S(0), C(0), C(1)], None)
        self.assertEqual(hangs(walk, 100, NEXT), sorted(hangs_by_words(walk, 100, NEXT)))
        every = [S(n) for n in range(8)] + [C(n) for n in range(16)] + [NEXT]
        self.assertEqual(suspects(walk, (100, every)), [])


class Suspects(unittest.TestCase):
    WALK = Hangs.WALK

    def test_by_hand(self):
        for time, things, told in (
            (8, [S(1)], [0, 3, 6]), (8, [S(1), S(3)], [3]), (8, [S(3), S(1), S(3)], [3]), (8, [S(1), S(2)], []),
            (8, [C(4), S(1)], [0, 3]), (8, [S(1), C(4), S(1), C(4)], [0, 3]), (8, [C(4), NEXT], [1]),
            (8, [NEXT, C(5)], []), (8, [NEXT], [1]), (0, [NEXT, S(1)], []), (8, [C(4), C(5)], [3]),
        ):
            with self.subTest(time=time, things=things):
                self.assertEqual(suspects(self.WALK, (time, things)), told)
                self.assertEqual(suspects(self.WALK, (time, things[::-1])), told)

    def test_what_is_handed_in_stays(self):
        walk, seen = copy.deepcopy(self.WALK), (8, [S(1), C(4), S(1)])
        suspects(walk, seen).clear()
        self.assertEqual((walk, seen), (self.WALK, (8, [S(1), C(4), S(1)])))
        self.assertEqual(suspects(walk, seen), [0, 3])


class ASlipIsASuspect(unittest.TestCase):
    def hold(self, mill, state, diary, n, holds_of):
        bells, ends = like_bells(diary), settled(diary)
        plain, walk = run(mill, state, len(ends), bells)[1], walk_of(mill, state, len(ends), bells)
        seen = first_seen(state, plain, ends, holds_of(walk))
        if seen is not None:
            self.assertIn(n, suspects(walk, seen))
        return seen is not None

    def test_by_hand(self):
        mill, state = read_mill("put 1 3; put 2 4; lay 2 1 0; take 3 0 3; go 3 0"), start([], [])
        diary = led_run(mill, state, (2, 4, 3, 1, 1, 1, 1, 1), 40, None, [(0, 1)])[1]
        ends, plain = settled(diary), run(mill, state, len(settled(diary)))[1]
        walk = walk_of(mill, state, len(ends))
        holds = [(4, C(3)), (4, C(4)), (4, S(3))]
        self.assertEqual(first_seen(state, plain, ends, holds), (4, [C(3), C(4), S(3)]))
        self.assertEqual(suspects(walk, (4, [C(3), C(4), S(3)])), [0])
        self.assertEqual(first_seen(state, plain, ends, []), None)
        self.assertEqual(first_seen(state, plain, ends, [(4, S(2))]), None)

    def test_many(self):
        dice = Random("suspects of slips")
        seen = 0
        for mill, state, lay, most, rings, bells in cases(500, "suspects of slips"):
            n, add = dice.choice((0, 1, 2, 3, 7)), dice.choice((1, -1, 2 ** 31, dice.randrange(2 ** 32)))
            diaries = (
                rung_run(mill, state, lay, min(most, 30), rings, [(n, add)])[1],
                led_run(mill, state, lay, min(most, 30), bells, [(n, add)])[1],
            )
            every = [S(spot) for spot in range(8)] + [C(cell) for cell in range(16)]
            places, things = [dice.randrange(9), dice.randrange(9)], dice.sample(every, 9)
            for diary in diaries:
                with self.subTest(mill=mill, state=state, lay=lay, rings=rings, bells=bells, n=n, add=add):
                    for holds_of in (
                        least_holds, lambda walk: [], lambda walk: holds_at(walk, places, things),
                        lambda walk: [(len(walk), thing) for thing in every],
                        lambda walk: [(time, thing) for time in range(len(walk) + 1) for thing in every[:8]],
                    ):
                        seen += self.hold(mill, state, diary, n, holds_of)
        self.assertGreater(seen, 300)


if __name__ == "__main__":
    unittest.main()
