"""Promises [2], [3], [5], [6] and [7]: rows, what they read and write, and mills."""

import unittest

from twomakes.errors import NoMill
from twomakes.mills import cell_at, is_slow, mill_of, spot_written, spots_read, wrapped

GREATEST_WORTH = 4294967295
FAR = 10 ** 59

# Each row with what it reads, what it writes and whether it is slow.
ROWS = (
    (("put", 3, 5), [], 3, False),
    (("sum", 1, 2, 3), [2, 3], 1, False),
    (("mul", 1, 2, 3), [2, 3], 1, True),
    (("less", 1, 2, 3), [2, 3], 1, False),
    (("take", 1, 2, 3), [2], 1, True),
    (("lay", 1, 2, 3), [1, 2], None, False),
    (("go", 4, 0), [4], None, False),
    (("shut",), [], None, False),
    (("open",), [], None, False),
    (("home",), [], None, False),
    # order as it stands, not by rising numbers
    (("sum", 0, 7, 2), [7, 2], 0, False),
    (("mul", 7, 5, 0), [5, 0], 7, True),
    (("less", 2, 6, 1), [6, 1], 2, False),
    (("lay", 6, 2, 0), [6, 2], None, False),
    # each once
    (("sum", 1, 4, 4), [4], 1, False),
    (("mul", 4, 4, 4), [4], 4, True),
    (("less", 0, 0, 0), [0], 0, False),
    (("lay", 5, 5, 5), [5], None, False),
    # what is written may be read, and numbers that are no spots stay out
    (("sum", 2, 2, 3), [2, 3], 2, False),
    (("take", 2, 2, 7), [2], 2, True),
    (("take", 0, 0, 15), [0], 0, True),
    (("put", 0, 1), [], 0, False),
    (("go", 0, 3), [0], None, False),
)

# A word, then for each of its numbers the greatest that it may be (None: the number of rows).
BOUNDS = (
    ("put", 7, GREATEST_WORTH),
    ("sum", 7, 7, 7),
    ("mul", 7, 7, 7),
    ("less", 7, 7, 7),
    ("take", 7, 7, 15),
    ("lay", 7, 7, 15),
    ("go", 7, None),
    ("shut",),
    ("open",),
    ("home",),
)


def filled(row, count):
    """A mill's list of that many rows whose last one is row."""
    return [("open",)] * (count - 1) + [row]


def rows_at_bounds(word_and_bounds, count):
    """Pairs of a row and whether it is right, with each number in turn at and beyond its bounds."""
    word = word_and_bounds[0]
    bounds = [count if bound is None else bound for bound in word_and_bounds[1:]]
    for place, bound in enumerate(bounds):
        for number in (0, 1, bound - 1, bound):
            yield (word, *([0] * place), number, *([0] * (len(bounds) - place - 1))), True
        for number in (-1, bound + 1, -bound - 1, FAR, -FAR):
            yield (word, *([0] * place), number, *([0] * (len(bounds) - place - 1))), False


class Worths(unittest.TestCase):
    def test_wrapped(self):
        for number, worth in (
            (0, 0), (1, 1), (GREATEST_WORTH, GREATEST_WORTH), (GREATEST_WORTH + 1, 0),
            (GREATEST_WORTH + 2, 1), (-1, GREATEST_WORTH), (-GREATEST_WORTH - 1, 0),
            (-GREATEST_WORTH - 2, GREATEST_WORTH), (GREATEST_WORTH * GREATEST_WORTH, 1),
        ):
            with self.subTest(number=number):
                self.assertEqual(wrapped(number), worth)

    def test_cell_at(self):
        for worth, n, cell in (
            (0, 0, 0), (0, 15, 15), (1, 15, 0), (15, 0, 15), (16, 0, 0), (37, 4, 9),
            (GREATEST_WORTH, 0, 15), (GREATEST_WORTH, 1, 0), (GREATEST_WORTH, 15, 14),
        ):
            with self.subTest(worth=worth, n=n):
                self.assertEqual(cell_at(worth, n), cell)


class RowsReadAndWritten(unittest.TestCase):
    def test_spots_read(self):
        for row, reads, _, _ in ROWS:
            with self.subTest(row=row):
                self.assertEqual(spots_read(row), reads)
                self.assertIs(type(spots_read(row)), list)

    def test_spot_written(self):
        for row, _, written, _ in ROWS:
            with self.subTest(row=row):
                self.assertEqual(spot_written(row), written)
                self.assertEqual(spot_written(row) is None, written is None)

    def test_is_slow(self):
        for row, _, _, slow in ROWS:
            with self.subTest(row=row):
                self.assertIs(is_slow(row), slow)

    def test_a_told_list_is_the_askers_own(self):
        for row, reads, _, _ in ROWS:
            with self.subTest(row=row):
                told = spots_read(row)
                again = spots_read(row)
                told.append(99)
                self.assertEqual(again, reads)
                self.assertEqual(spots_read(row), reads)


class MillsMade(unittest.TestCase):
    def test_a_mill_is_a_tuple_of_tuples(self):
        rows = [("put", 1, 5), ("go", 1, 0), ("home",)]
        mill = mill_of(rows, [2, 0])
        self.assertEqual(mill, ((("put", 1, 5), ("go", 1, 0), ("home",)), (2, 0)))
        self.assertEqual([type(part) for part in mill], [tuple, tuple])

    def test_one_row(self):
        for row in (("open",), ("put", 7, GREATEST_WORTH), ("go", 0, 0), ("go", 7, 1)):
            with self.subTest(row=row):
                self.assertEqual(mill_of([row], []), ((row,), ()))

    def test_forty_rows(self):
        rows = [("put", k % 8, k) for k in range(40)]
        self.assertEqual(mill_of(rows, []), (tuple(rows), ()))
        self.assertEqual(mill_of(rows, [0, 40, 40, 39]), (tuple(rows), (0, 40, 40, 39)))

    def test_all_kinds_of_rows_in_one_mill(self):
        rows = [row for row, _, _, _ in ROWS]
        self.assertEqual(mill_of(rows, []), (tuple(rows), ()))

    def test_none_to_four_bells(self):
        rows = [("open",), ("home",)]
        for bells in ([], [0], [2], [0, 2], [2, 1, 0], [1, 1, 1, 1], [0, 1, 2, 0]):
            with self.subTest(bells=bells):
                self.assertEqual(mill_of(rows, bells), (tuple(rows), tuple(bells)))

    def test_numbers_of_rows_at_their_bounds(self):
        for word_and_bounds in BOUNDS:
            for count in (1, 2, 40):
                for row, right in rows_at_bounds(word_and_bounds, count):
                    if right:
                        with self.subTest(row=row, count=count):
                            rows = filled(row, count)
                            self.assertEqual(mill_of(rows, []), (tuple(rows), ()))

    def test_all_numbers_at_their_greatest(self):
        for word_and_bounds in BOUNDS:
            row = tuple(3 if bound is None else bound for bound in word_and_bounds)
            with self.subTest(row=row):
                self.assertEqual(mill_of(filled(row, 3), [])[0][2], row)


class MillsRefused(unittest.TestCase):
    def refuse(self, rows, bells):
        with self.subTest(rows=rows, bells=bells):
            with self.assertRaises(NoMill) as caught:
                mill_of(rows, bells)
            self.assertIs(type(caught.exception), NoMill)

    def test_no_rows(self):
        self.refuse([], [])
        self.refuse([], [0])

    def test_more_than_forty_rows(self):
        self.refuse([("open",)] * 41, [])
        self.refuse([("open",)] * 60, [])

    def test_more_than_four_bells(self):
        self.refuse([("open",)], [0] * 5)
        self.refuse([("open",)], [0] * 60)

    def test_bells_out_of_bounds(self):
        for count in (1, 2, 40):
            for place in (-1, count + 1, -count, FAR, -FAR):
                self.refuse([("open",)] * count, [place])
                self.refuse([("open",)] * count, [0, place])
                self.refuse([("open",)] * count, [place, 0, 1, count])

    def test_unknown_words(self):
        for word in ("", " ", "pu", "puts", "Put", "PUT", "put ", "opens", "add", "d", "n", "p"):
            for numbers in ((), (0,), (0, 0), (0, 0, 0)):
                self.refuse([(word, *numbers)], [])

    def test_too_many_or_too_few_numbers(self):
        for word, *bounds in BOUNDS:
            for count in range(6):
                if count != len(bounds):
                    self.refuse([(word, *([0] * count))], [])

    def test_numbers_of_rows_out_of_bounds(self):
        for word_and_bounds in BOUNDS:
            for count in (1, 2, 40):
                for row, right in rows_at_bounds(word_and_bounds, count):
                    if not right:
                        self.refuse(filled(row, count), [])

    def test_a_wrong_row_anywhere(self):
        for place in range(40):
            rows = [("open",)] * 40
            rows[place] = ("put", 8, 0)
            self.refuse(rows, [])


class NothingChangedOrKept(unittest.TestCase):
    def test_lists_handed_in_stay(self):
        rows = [("put", 1, 5), ("go", 1, 2)]
        bells = [2, 0]
        mill_of(rows, bells)
        self.assertEqual((rows, bells), ([("put", 1, 5), ("go", 1, 2)], [2, 0]))

    def test_lists_handed_in_stay_behind_a_refusal(self):
        rows = [("put", 1, 5), ("go", 1, 3)]
        bells = [2, 0, 1, 1, 1]
        for few in (bells, bells[:1]):
            kept = list(few)
            with self.assertRaises(NoMill):
                mill_of(rows, few)
            self.assertEqual((rows, few), ([("put", 1, 5), ("go", 1, 3)], kept))

    def test_changing_the_lists_later_changes_no_mill(self):
        rows = [("put", 1, 5), ("home",)]
        bells = [2, 0]
        mill = mill_of(rows, bells)
        rows[0] = ("shut",)
        rows.append(("open",))
        bells.clear()
        self.assertEqual(mill, ((("put", 1, 5), ("home",)), (2, 0)))

    def test_a_refusal_leaves_no_trace(self):
        with self.assertRaises(NoMill):
            mill_of([("put", 8, 0)], [0])
        self.assertEqual(mill_of([("put", 7, 0)], [0]), ((("put", 7, 0),), (0,)))


if __name__ == "__main__":
    unittest.main()
