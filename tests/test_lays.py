"""Promise [13]: lays and terms."""

import unittest

from twomakes.errors import NoLay
from twomakes.lays import lay_of, terms_of

GREATEST = [4, 8, 9, 5, 4, 4, 4, 4]
FAR = 10 ** 59


def with_number(numbers, at, number):
    return numbers[:at] + [number] + numbers[at + 1:]


class Lays(unittest.TestCase):
    def test_all_least_and_all_greatest(self):
        for numbers in ([1] * 8, GREATEST):
            told = lay_of(numbers)
            self.assertEqual(told, tuple(numbers))
            self.assertIs(type(told), tuple)

    def test_each_number_within_its_bounds(self):
        for at, greatest in enumerate(GREATEST):
            for numbers in ([1] * 8, GREATEST):
                for number in range(1, greatest + 1):
                    handed = with_number(numbers, at, number)
                    with self.subTest(numbers=handed):
                        self.assertEqual(lay_of(handed), tuple(handed))

    def test_each_number_out_of_its_bounds(self):
        for at, greatest in enumerate(GREATEST):
            for numbers in ([1] * 8, GREATEST):
                for number in (0, greatest + 1, -1, -greatest, FAR, -FAR):
                    self.refuse(with_number(numbers, at, number))

    def test_too_few_and_too_many_numbers(self):
        for count in (0, 1, 7, 9, 16, 60):
            self.refuse([1] * count)

    def test_all_numbers_wrong(self):
        self.refuse([0] * 8)
        self.refuse([10] * 8)
        self.refuse([0] * 9)

    def refuse(self, numbers):
        kept = list(numbers)
        with self.subTest(numbers=numbers):
            with self.assertRaises(NoLay) as caught:
                lay_of(numbers)
            self.assertIs(type(caught.exception), NoLay)
            self.assertEqual(numbers, kept)

    def test_the_list_handed_in_stays_and_is_not_kept(self):
        numbers = [1, 2, 3, 4, 4, 3, 2, 1]
        told = lay_of(numbers)
        self.assertEqual(numbers, [1, 2, 3, 4, 4, 3, 2, 1])
        numbers[0] = 4
        self.assertEqual(told, (1, 2, 3, 4, 4, 3, 2, 1))


class Terms(unittest.TestCase):
    def test_terms(self):
        for lay, terms in (
            ((1, 1, 1, 1, 1, 1, 1, 1), (1, 1, 1, 1, 1)),
            ((4, 8, 9, 5, 4, 4, 4, 4), (4, 4, 4, 16, 13)),
            ((2, 8, 3, 4, 1, 3, 4, 2), (2, 1, 3, 8, 6)),
            ((3, 1, 9, 1, 2, 4, 1, 4), (3, 2, 4, 3, 9)),
            ((1, 5, 1, 5, 3, 2, 3, 1), (1, 3, 2, 3, 5)),
        ):
            with self.subTest(lay=lay):
                self.assertEqual(terms_of(lay), terms)
                self.assertIs(type(terms_of(lay)), tuple)


if __name__ == "__main__":
    unittest.main()
