"""Promises [2], [3], [9], [10], [11] and [12]: states, rows done, bells taken, and plain runs."""

import copy
import unittest

from helper import cases
from twomakes.errors import NoBell, NoState, Resting, Shut
from twomakes.mills import mill_of
from twomakes.plain import bell, rests, run, start, step
from twomakes.texts import read_mill

GREATEST_WORTH = 4294967295
FAR = 10 ** 59
SIXTY_FIGURES = 10 ** 60 - 1


def spots_with(worths):
    return tuple(worths.get(spot, 0) for spot in range(8))


def cells_with(worths):
    return tuple(worths.get(cell, 0) for cell in range(16))


def state_at(place, spots=(), cells=(), shut=False, kept=None):
    return (place, spots_with(dict(spots)), cells_with(dict(cells)), shut, kept)


class Refusing(unittest.TestCase):
    def refuse(self, refusal, asked, *handed):
        with self.subTest(refusal=refusal.__name__, asked=asked.__name__, handed=handed):
            with self.assertRaises(refusal) as caught:
                asked(*handed)
            self.assertIs(type(caught.exception), refusal)


class Starts(Refusing):
    def test_of_no_numbers(self):
        self.assertEqual(start([], []), (0, (0,) * 8, (0,) * 16, False, None))

    def test_kinds(self):
        state = start([1], [2])
        self.assertEqual([type(part) for part in state], [int, tuple, tuple, bool, type(None)])

    def test_of_some_numbers(self):
        self.assertEqual(start([5], []), state_at(0, {0: 5}))
        self.assertEqual(start([], [6]), state_at(0, {}, {0: 6}))
        self.assertEqual(start([1, 0, 2], [3, 4]), state_at(0, {0: 1, 2: 2}, {0: 3, 1: 4}))
        self.assertEqual(start([1] * 7, [2] * 15), (0, (1,) * 7 + (0,), (2,) * 15 + (0,), False, None))

    def test_of_all_numbers(self):
        self.assertEqual(
            start(list(range(8)), list(range(20, 36))), (0, tuple(range(8)), tuple(range(20, 36)), False, None)
        )

    def test_wrapped(self):
        for number, worth in (
            (GREATEST_WORTH, GREATEST_WORTH), (GREATEST_WORTH + 1, 0), (GREATEST_WORTH + 2, 1),
            (-1, GREATEST_WORTH), (-GREATEST_WORTH, 1), (-GREATEST_WORTH - 1, 0),
            (-GREATEST_WORTH - 2, GREATEST_WORTH),
            (SIXTY_FIGURES, SIXTY_FIGURES % 2 ** 32), (-SIXTY_FIGURES, 2 ** 32 - SIXTY_FIGURES % 2 ** 32),
            (2 ** 190 + 7, 7), (7 - 2 ** 190, 7),
        ):
            with self.subTest(number=number):
                self.assertEqual(start([0, number], []), state_at(0, {1: worth}))
                self.assertEqual(start([number] * 8, [])[1], (worth,) * 8)
                self.assertEqual(start([], [0, 0, number]), state_at(0, {}, {2: worth}))
                self.assertEqual(start([], [number] * 16)[2], (worth,) * 16)

    def test_too_many(self):
        for spots, cells in (
            ([0] * 9, []), ([0] * 60, [0] * 16), ([], [0] * 17), ([0] * 8, [0] * 60), ([0] * 9, [0] * 17),
            ([0] * 16, []),
        ):
            self.refuse(NoState, start, spots, cells)

    def test_lists_handed_in_stay(self):
        spots, cells = [-1, 2], [FAR]
        state = start(spots, cells)
        self.assertEqual((spots, cells), ([-1, 2], [FAR]))
        spots.append(7)
        cells.clear()
        self.assertEqual(state[1], (GREATEST_WORTH, 2, 0, 0, 0, 0, 0, 0))
        many = [1] * 9
        self.refuse(NoState, start, many, cells)
        self.assertEqual((many, cells), ([1] * 9, []))


class Rests(unittest.TestCase):
    def test_at_each_place(self):
        for count in (1, 2, 5, 40):
            mill = mill_of([("open",)] * count, [0])
            for place in range(count + 1):
                for shut in (False, True):
                    for kept in (None, 0, count):
                        with self.subTest(count=count, place=place, shut=shut, kept=kept):
                            self.assertIs(rests(mill, state_at(place, shut=shut, kept=kept)), place == count)


# A row that stands at place 1 of three, the spots and cells ahead, what it wrote, and the place behind.
DONE = (
    (("put", 3, 5), {}, {}, ("spot", 3, 5), 2),
    (("put", 0, GREATEST_WORTH), {0: 9}, {}, ("spot", 0, GREATEST_WORTH), 2),
    (("put", 7, 0), {7: 9}, {}, ("spot", 7, 0), 2),
    (("sum", 1, 2, 3), {2: 4, 3: 5}, {}, ("spot", 1, 9), 2),
    (("sum", 2, 2, 2), {2: 4}, {}, ("spot", 2, 8), 2),
    (("sum", 1, 2, 3), {2: GREATEST_WORTH, 3: 1}, {}, ("spot", 1, 0), 2),
    (("sum", 1, 2, 3), {2: GREATEST_WORTH, 3: 0}, {}, ("spot", 1, GREATEST_WORTH), 2),
    (("sum", 1, 2, 2), {2: GREATEST_WORTH}, {}, ("spot", 1, GREATEST_WORTH - 1), 2),
    (("mul", 1, 2, 3), {2: 4, 3: 5}, {}, ("spot", 1, 20), 2),
    (("mul", 1, 2, 3), {2: 65536, 3: 65536}, {}, ("spot", 1, 0), 2),
    (("mul", 1, 2, 3), {2: 65537, 3: 65536}, {}, ("spot", 1, 65536), 2),
    (("mul", 4, 4, 4), {4: GREATEST_WORTH}, {}, ("spot", 4, 1), 2),
    (("mul", 1, 2, 3), {2: GREATEST_WORTH, 3: 2}, {}, ("spot", 1, GREATEST_WORTH - 1), 2),
    (("less", 1, 2, 3), {2: 4, 3: 5}, {}, ("spot", 1, 1), 2),
    (("less", 1, 2, 3), {2: 5, 3: 4}, {}, ("spot", 1, 0), 2),
    (("less", 1, 2, 3), {1: 7, 2: 5, 3: 5}, {}, ("spot", 1, 0), 2),
    (("less", 1, 2, 3), {2: 0, 3: GREATEST_WORTH}, {}, ("spot", 1, 1), 2),
    (("less", 1, 2, 3), {2: GREATEST_WORTH, 3: 0}, {}, ("spot", 1, 0), 2),
    (("less", 2, 2, 2), {2: 5}, {}, ("spot", 2, 0), 2),
    (("take", 1, 2, 3), {2: 4}, {7: 70, 4: 40, 3: 30}, ("spot", 1, 70), 2),
    (("take", 1, 2, 15), {2: 1}, {0: 11, 15: 12}, ("spot", 1, 11), 2),
    (("take", 2, 2, 0), {2: 37}, {5: 50}, ("spot", 2, 50), 2),
    (("take", 1, 2, 1), {2: GREATEST_WORTH}, {0: 11, 15: 12}, ("spot", 1, 11), 2),
    (("take", 1, 0, 0), {1: 9}, {}, ("spot", 1, 0), 2),
    (("lay", 1, 2, 3), {1: 8, 2: 4}, {7: 70}, ("cell", 7, 8), 2),
    (("lay", 2, 1, 3), {1: 8, 2: 4}, {}, ("cell", 11, 4), 2),
    (("lay", 5, 5, 15), {5: 2}, {}, ("cell", 1, 2), 2),
    (("lay", 1, 2, 1), {1: 8, 2: GREATEST_WORTH}, {}, ("cell", 0, 8), 2),
    (("lay", 1, 2, 0), {1: GREATEST_WORTH, 2: 15}, {}, ("cell", 15, GREATEST_WORTH), 2),
    (("go", 1, 0), {1: 1}, {}, None, 0),
    (("go", 1, 3), {1: GREATEST_WORTH}, {}, None, 3),
    (("go", 1, 1), {1: 2}, {}, None, 1),
    (("go", 1, 2), {1: 2}, {}, None, 2),
    (("go", 1, 0), {0: 1}, {}, None, 2),
    (("go", 7, 3), {1: 1}, {}, None, 2),
)


class Steps(Refusing):
    def test_rows_that_leave_bells_alone(self):
        for row, spots, cells, wrote, place in DONE:
            mill = mill_of([("home",), row, ("home",)], [])
            spots_behind, cells_behind = dict(spots), dict(cells)
            if wrote is not None:
                {"spot": spots_behind, "cell": cells_behind}[wrote[0]][wrote[1]] = wrote[2]
            for shut in (False, True):
                for kept in (None, 0, 3):
                    with self.subTest(row=row, spots=spots, shut=shut, kept=kept):
                        told = step(mill, state_at(1, spots, cells, shut, kept))
                        self.assertEqual(told, (state_at(place, spots_behind, cells_behind, shut, kept), (1, wrote)))

    def test_shut_and_open(self):
        for word, behind in (("shut", True), ("open", False)):
            mill = mill_of([("home",), (word,), ("home",)], [])
            for shut in (False, True):
                for kept in (None, 0, 1, 3):
                    with self.subTest(word=word, shut=shut, kept=kept):
                        told = step(mill, state_at(1, {1: 2}, {3: 4}, shut, kept))
                        self.assertEqual(told, (state_at(2, {1: 2}, {3: 4}, behind, kept), (1, None)))
                        self.assertIs(told[0][3], behind)

    def test_home(self):
        mill = mill_of([("open",), ("home",), ("open",)], [])
        for shut in (False, True):
            for kept, place in ((None, 2), (0, 0), (1, 1), (2, 2), (3, 3)):
                with self.subTest(shut=shut, kept=kept):
                    told = step(mill, state_at(1, {1: 2}, {3: 4}, shut, kept))
                    self.assertEqual(told, (state_at(place, {1: 2}, {3: 4}), (1, None)))
                    self.assertIs(told[0][3], False)

    def test_the_last_row_leads_to_rest(self):
        mill = read_mill("put 1 5; put 2 6")
        state, end = step(mill, state_at(1))
        self.assertEqual((state, end), (state_at(2, {2: 6}), (1, ("spot", 2, 6))))
        self.assertTrue(rests(mill, state))

    def test_resting(self):
        for text in ("home", "put 1 5; go 0 0 | 0", "; ".join(["open"] * 40)):
            mill = read_mill(text)
            for shut in (False, True):
                for kept in (None, 0):
                    self.refuse(Resting, step, mill, state_at(len(mill[0]), {1: 1}, {}, shut, kept))

    def test_a_told_pair_is_new(self):
        mill, state = read_mill("put 1 5; home"), start([3], [4])
        self.assertEqual(step(mill, state), step(mill, state))
        self.assertEqual(state, start([3], [4]))


class Bells(Refusing):
    def test_taken(self):
        mill = read_mill("put 1 5; home; open | 2 0 3 1")
        for k, lead in enumerate((2, 0, 3, 1)):
            for place in range(4):
                for kept in (None, 0, 2, 3):
                    with self.subTest(k=k, place=place, kept=kept):
                        told = bell(mill, state_at(place, {1: 2}, {3: 4}, False, kept), k)
                        self.assertEqual(told, state_at(lead, {1: 2}, {3: 4}, True, place))
                        self.assertIs(told[3], True)

    def test_no_bell(self):
        for text, wrong in (
            ("home", (0, 1, -1, FAR, -FAR)),
            ("home | 0", (1, -1, 2, FAR, -FAR)),
            ("home | 0 1 0 1", (4, -1, -2, -4, -5, 5, FAR, -FAR)),
        ):
            for k in wrong:
                for place in (0, 1):
                    for shut in (False, True):
                        self.refuse(NoBell, bell, read_mill(text), state_at(place, shut=shut), k)

    def test_shut(self):
        for place in (0, 1):
            for kept in (None, 0, 1):
                for k in (0, 1):
                    self.refuse(Shut, bell, read_mill("home | 0 1"), state_at(place, shut=True, kept=kept), k)


LOOP = read_mill("put 1 5; sum 2 2 1; go 1 0; home; put 3 7; home | 4 3")
# behind row 0, 1, 2 and again from 0 on
ROUND = [(0, ("spot", 1, 5)), (1, ("spot", 2, 5)), (2, None), (0, ("spot", 1, 5)), (1, ("spot", 2, 10)), (2, None)]
WAY = [(4, ("spot", 3, 7)), (5, None)]
GATED = read_mill("shut; put 1 1; open; put 2 2; home | 4")


def bells_taken(mill, state, most, bells):
    """How many of the bells a run takes: told by no run, so gone through by steps."""
    ends, taken = 0, 0
    while True:
        if taken < len(bells) and bells[taken][0] <= ends and not state[3]:
            state, taken = bell(mill, state, bells[taken][1]), taken + 1
        elif ends == most or rests(mill, state):
            return taken
        else:
            state, ends = step(mill, state)[0], ends + 1


class Runs(Refusing):
    def test_no_ends(self):
        state = state_at(2, {1: 4}, {2: 5}, True, 1)
        self.assertEqual(run(LOOP, state, 0), (state, []))
        self.assertEqual(run(LOOP, state, 0, []), (state, []))

    def test_as_many_ends_as_asked(self):
        for most in range(7):
            with self.subTest(most=most):
                self.assertEqual(run(LOOP, start([], []), most)[1], ROUND[:most])
        self.assertEqual(run(LOOP, start([], []), 5)[0], state_at(2, {1: 5, 2: 10}))
        self.assertEqual(len(run(LOOP, start([], []), 300)[1]), 300)

    def test_more_ends_than_come_to_rest(self):
        mill = read_mill("put 1 5; lay 1 1 1; put 2 6")
        ends = [(0, ("spot", 1, 5)), (1, ("cell", 6, 5)), (2, ("spot", 2, 6))]
        for most in (3, 4, 300):
            with self.subTest(most=most):
                self.assertEqual(run(mill, start([], []), most), (state_at(3, {1: 5, 2: 6}, {6: 5}), ends))
        self.assertEqual(run(mill, state_at(3), 10), (state_at(3), []))

    def test_a_bell_ahead_of_all_ends(self):
        self.assertEqual(
            run(LOOP, start([], []), 4, [(0, 0)]), (state_at(2, {1: 5, 2: 5, 3: 7}), WAY + ROUND[:2])
        )

    def test_a_bell_waits_for_ends(self):
        self.assertEqual(
            run(LOOP, start([], []), 5, [(2, 0)]), (state_at(0, {1: 5, 2: 5, 3: 7}), ROUND[:2] + WAY + ROUND[2:3])
        )

    def test_a_bell_waits_for_being_let_in(self):
        ends = [(0, None), (1, ("spot", 1, 1)), (2, None), (4, None), (3, ("spot", 2, 2)), (4, None)]
        self.assertEqual(run(GATED, start([], []), 20, [(1, 0)]), (state_at(5, {1: 1, 2: 2}), ends))
        self.assertEqual(run(GATED, start([], []), 20, [(3, 0)]), (state_at(5, {1: 1, 2: 2}), ends))

    def test_bells_of_one_place_come_one_by_one(self):
        self.assertEqual(
            run(LOOP, start([], []), 20, [(0, 1), (0, 0), (0, 1)])[1][:5],
            [(3, None), *WAY, (3, None), (0, ("spot", 1, 5))],
        )

    def test_bells_keep_their_order(self):
        # the second one waits for the first one, though it could be taken by itself
        mill = read_mill("put 1 1; put 2 2; home; put 3 3 | 3 2")
        self.assertEqual(
            run(mill, start([], []), 9, [(1, 1), (1, 0)]),
            (state_at(4, {1: 1, 3: 3}, {}, True, 1), [(0, ("spot", 1, 1)), (2, None), (3, ("spot", 3, 3))]),
        )

    def test_a_bell_behind_the_last_end(self):
        taken = state_at(4, {1: 5, 2: 5}, {}, True, 2)
        self.assertEqual(run(LOOP, start([], []), 2, [(2, 0)]), (taken, ROUND[:2]))
        self.assertEqual(run(LOOP, start([], []), 2, [(2, 0), (2, 1)]), (taken, ROUND[:2]))
        self.assertEqual(run(LOOP, start([], []), 0, [(0, 1)]), (state_at(3, {}, {}, True, 0), []))

    def test_bells_farther_than_the_ends_asked(self):
        self.assertEqual(run(LOOP, start([], []), 2, [(3, 0)]), (state_at(2, {1: 5, 2: 5}), ROUND[:2]))
        self.assertEqual(run(LOOP, start([], []), 2, [(FAR, 0)]), (state_at(2, {1: 5, 2: 5}), ROUND[:2]))

    def test_a_resting_mill_takes_bells(self):
        mill = read_mill("put 1 5; home; put 2 6 | 1 3")
        self.assertEqual(run(mill, state_at(3), 9, [(0, 0)]), (state_at(3), [(1, None)]))
        self.assertEqual(run(mill, state_at(3), 0, [(0, 0)]), (state_at(1, shut=True, kept=3), []))
        self.assertEqual(run(mill, state_at(3), 9, [(1, 0)]), (state_at(3), []))
        self.assertEqual(run(mill, state_at(0), 9, [(0, 1), (0, 0)]), (state_at(3, shut=True, kept=0), []))
        self.assertEqual(run(mill, state_at(3, shut=True), 9, [(0, 0)]), (state_at(3, shut=True), []))

    def test_a_run_that_is_shut_for_good(self):
        mill = read_mill("shut; put 1 1; go 1 1 | 0")
        state, ends = run(mill, start([], []), 300, [(2, 0)])
        self.assertEqual(len(ends), 300)
        self.assertIs(state[3], True)

    def test_no_bell_ahead_of_all(self):
        for state in (start([], []), state_at(6), state_at(6, shut=True), state_at(0, shut=True)):
            for most in (0, 5):
                for k in (2, 3, -1, -2, FAR, -FAR):
                    for bells in ([(0, k)], [(FAR, k)], [(0, 0), (1, k)], [(0, k), (0, 0)]):
                        self.refuse(NoBell, run, LOOP, state, most, bells)
        self.refuse(NoBell, run, read_mill("home"), state_at(1), 0, [(9, 0)])

    def test_bells_left_out_and_none(self):
        for state in (start([], []), state_at(3, {2: 8}, {}, True, 1), state_at(6)):
            told = run(LOOP, state, 9)
            self.assertEqual(run(LOOP, state, 9, None), told)
            self.assertEqual(run(LOOP, state, 9, []), told)

    def test_a_run_parted_in_two(self):
        for mill, state, _, _, _, bells in cases(150, "parted"):
            whole = run(mill, state, 24, bells)
            for first in (0, 1, 5, 23):
                halfway, ends = run(mill, state, first, bells)
                taken = bells_taken(mill, state, first, bells)
                left = [(max(0, after - len(ends)), k) for after, k in bells[taken:]]
                further, more = run(mill, halfway, 24 - len(ends), left)
                with self.subTest(mill=mill, state=state, bells=bells, first=first):
                    self.assertEqual((further, ends + more), whole)

    def test_a_run_without_bells_is_its_steps(self):
        for mill, state, _, _, _, _ in cases(100, "steps"):
            there, ends = state, []
            while len(ends) < 30 and not rests(mill, there):
                there, end = step(mill, there)
                ends.append(end)
            self.assertEqual(run(mill, state, 30), (there, ends))


class NothingChangedOrKept(unittest.TestCase):
    def test_what_is_handed_in_stays(self):
        for mill, state, _, _, _, bells in cases(60, "plain stays"):
            handed = copy.deepcopy((mill, state, bells))
            run(mill, state, 30, bells)
            self.assertEqual((mill, state, bells), handed)

    def test_what_is_refused_changes_nothing(self):
        bells = [(0, 0), (1, 2)]
        with self.assertRaises(NoBell):
            run(LOOP, start([], []), 5, bells)
        self.assertEqual(bells, [(0, 0), (1, 2)])
        self.assertEqual(run(LOOP, start([], []), 3)[1], ROUND[:3])

    def test_a_told_list_is_the_askers_own(self):
        bells = [(1, 0)]
        told = run(LOOP, start([], []), 4, bells)[1]
        again = run(LOOP, start([], []), 4, bells)[1]
        told.clear()
        bells.clear()
        self.assertEqual(again, ROUND[:1] + WAY + ROUND[1:2])
        self.assertEqual(run(LOOP, start([], []), 4, [(1, 0)])[1], again)


if __name__ == "__main__":
    unittest.main()
