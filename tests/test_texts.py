"""Promise [8]: the one writing of a mill, told and read back."""

import unittest

from twomakes.errors import NoText
from twomakes.mills import mill_of
from twomakes.texts import read_mill, show_mill

GREATEST_WORTH = 4294967295

ALL_KINDS = [
    ("put", 0, 0), ("put", 7, GREATEST_WORTH), ("sum", 1, 2, 3), ("mul", 4, 5, 6), ("less", 7, 0, 1),
    ("take", 2, 3, 15), ("lay", 4, 5, 0), ("go", 6, 11), ("shut",), ("open",), ("home",),
]
ALL_KINDS_TEXT = (
    "put 0 0; put 7 4294967295; sum 1 2 3; mul 4 5 6; less 7 0 1; "
    "take 2 3 15; lay 4 5 0; go 6 11; shut; open; home"
)

# Rows, bells and their writing.
WRITINGS = (
    ([("put", 1, 5), ("go", 1, 0), ("home",)], [2, 0], "put 1 5; go 1 0; home | 2 0"),
    ([("open",)], [], "open"),
    ([("open",)], [0], "open | 0"),
    ([("open",)], [1, 0, 1, 1], "open | 1 0 1 1"),
    ([("go", 0, 1)], [1], "go 0 1 | 1"),
    ([("put", 7, 10)], [], "put 7 10"),
    (ALL_KINDS, [], ALL_KINDS_TEXT),
    (ALL_KINDS, [11, 10, 0], ALL_KINDS_TEXT + " | 11 10 0"),
    ([("home",)] * 40, [40, 0, 39, 40], "; ".join(["home"] * 40) + " | 40 0 39 40"),
    ([("put", 7, GREATEST_WORTH)] * 40, [40] * 4, "; ".join(["put 7 4294967295"] * 40) + " | 40 40 40 40"),
)

NO_WRITINGS = {
    "empty and blank": ("", " ", "  ", ";", "; ", "|", " | ", " | 0", "| 0", "0", "1 2"),
    "blanks missing": (
        "put1 5", "put 15", "put15", "home;home", "put 1 5;go 1 0", "home| 0", "home |0", "home|0",
        "home; home |0 1",
    ),
    "blanks doubled": (
        "put  1 5", "put 1  5", "home;  home", "home  ; home", "home  | 0", "home |  0", "home | 0  1",
    ),
    "blanks ahead or behind": (
        " home", "home ", " put 1 5", "put 1 5 ", "home ; home", "home | 0 ", " home | 0", "put 1 5 ; home",
        "home; home ",
    ),
    "0 ahead of other figures": (
        "put 01 5", "put 1 05", "put 1 00", "put 00 5", "put 1 0000000005", "put 1 04294967295",
        "go 1 00", "take 1 1 015", "home | 00", "home | 01", "home | 0 01",
    ),
    "signs": (
        "put +1 5", "put 1 +5", "put 1 -5", "put -1 5", "put 1 -0", "put 1 +0", "go 1 -1", "go 1 +0",
        "home | -1", "home | +1", "home | -0", "put - 5", "put 1 -",
    ),
    "other ways to write numbers": (
        "put 1 1_0", "put 1 0x5", "put 1 5.0", "put 1 1e1", "put 1 a", "put a 5", "put 1 'a'", "put 1 1,5",
        "home | a", "home | 0_0",
    ),
    "stroke without bells": ("home |", "home | ", "home|", "home| ", "put 1 5 |", "put 1 5 | "),
    "strokes too many": (
        "home | 0 | 0", "home | | 0", "home || 0", "home | 0 |", "home | 0 | ", "home | 0|1", "| home | 0",
        "home |; home", "home | 0; home", "home | home",
    ),
    "semicolons": (
        "home;", "home; ", ";home", "; home", "home;; home", "home; ; home", "home;; ", "home home",
        "put 1 5 go 1 0", "home, home", "home: home", "home; | 0", "home;  | 0", "home | 0; 0", "home | 0;",
        "home | 0; ", "home | 0, 0",
    ),
    "unknown words": ("hop", "hop 1 5", "add 1 2 3", "bell", "bells", "d", "worth", "None", "end; home"),
    "words with a letter more or less": (
        "puts 1 5", "put1 1 5", "xput 1 5", "sums 1 2 3", "muls 1 2 3", "lesss 1 2 3", "takes 1 2 3",
        "lays 1 2 3", "goo 1 0", "shuts", "opens", "homes", "pu 1 5", "su 1 2 3", "mu 1 2 3", "les 1 2 3",
        "tak 1 2 3", "la 1 2 3", "g 1 0", "shu", "ope", "hom", "h", "Home", "HOME", "Put 1 5",
    ),
    "too many or too few numbers": (
        "put", "put 1", "put 1 5 0", "sum 1 2", "sum 1 2 3 4", "mul 1 2", "mul 1 2 3 4", "less 1 2",
        "less 1 2 3 4", "take 1 2", "take 1 2 3 4", "lay 1 2", "lay 1 2 3 4", "go", "go 1", "go 1 0 0",
        "shut 0", "open 0", "home 0", "home 0 | 0",
    ),
    "numbers out of bounds": (
        "put 8 5", "put 1 4294967296", "put 1 9999999999", "put 1 10000000000", "sum 8 2 3", "sum 1 8 3",
        "sum 1 2 8", "mul 8 2 3", "mul 1 8 3", "mul 1 2 8", "less 8 2 3", "less 1 8 3", "less 1 2 8",
        "take 8 2 3", "take 1 8 3", "take 1 2 16", "lay 8 2 3", "lay 1 8 3", "lay 1 2 16", "go 8 0",
        "go 1 2", "home; go 1 3", "home | 2", "home; home | 0 3",
    ),
    "numbers far out": tuple(
        text.replace("N", figures)
        for figures in ("9" * 60, "1" + "0" * 59, "1" * 1400, "1" * 5000)
        for text in ("put N 5", "put 1 N", "take 1 2 N", "lay 1 N 2", "go 1 N", "home | N", "home | 0 N")
    ),
    "too many rows or bells": (
        "; ".join(["home"] * 41), "; ".join(["home"] * 60), "; ".join(["home"] * 41) + " | 0",
        "home | 0 0 0 0 0", "home | 0 1 0 1 0 1",
    ),
}


def near_texts(text):
    """All texts that are one sign away from it."""
    signs = " ;|0159-+hp"
    for place in range(len(text) + 1):
        for sign in signs:
            yield text[:place] + sign + text[place:]
            yield text[:place] + sign + text[place + 1:]
        yield text[:place] + text[place + 1:]
        yield text[:place] + text[place:place + 1] * 2 + text[place + 1:]


class Written(unittest.TestCase):
    def test_show_mill(self):
        for rows, bells, text in WRITINGS:
            with self.subTest(text=text):
                self.assertEqual(show_mill(mill_of(rows, bells)), text)

    def test_read_mill(self):
        for rows, bells, text in WRITINGS:
            with self.subTest(text=text):
                mill = read_mill(text)
                self.assertEqual(mill, (tuple(rows), tuple(bells)))
                self.assertEqual([type(part) for part in mill], [tuple, tuple])
                self.assertEqual({type(row) for row in mill[0]}, {tuple})

    def test_each_number_is_written_and_read_back(self):
        for number in (0, 1, 9, 10, 99, 100, 1000000000, 4294967294, GREATEST_WORTH):
            with self.subTest(number=number):
                text = "put 0 " + str(number)
                self.assertEqual(show_mill(((("put", 0, number),), ())), text)
                self.assertEqual(read_mill(text), ((("put", 0, number),), ()))

    def test_one_writing_a_mill(self):
        taken = {}
        for _, _, text in WRITINGS[:6]:
            for near in near_texts(text):
                try:
                    mill = read_mill(near)
                except NoText:
                    continue
                with self.subTest(near=near):
                    self.assertEqual(show_mill(mill), near)
                    self.assertEqual(mill, mill_of(list(mill[0]), list(mill[1])))
                    self.assertEqual(taken.setdefault(mill, near), near)
        self.assertGreater(len(taken), 50)


class Refused(unittest.TestCase):
    def test_texts_that_write_no_mill(self):
        for fault, texts in NO_WRITINGS.items():
            for text in texts:
                with self.subTest(fault=fault, text=text[:80]):
                    with self.assertRaises(NoText) as caught:
                        read_mill(text)
                    self.assertIs(type(caught.exception), NoText)

    def test_a_fault_in_any_row(self):
        for place in range(len(ALL_KINDS)):
            rows = ALL_KINDS_TEXT.split("; ")
            rows[place] += " 0"
            with self.subTest(place=place):
                self.assertRaises(NoText, read_mill, "; ".join(rows))

    def test_a_refusal_leaves_no_trace(self):
        self.assertRaises(NoText, read_mill, "home | 2")
        self.assertEqual(read_mill("home | 1"), ((("home",),), (1,)))


if __name__ == "__main__":
    unittest.main()
