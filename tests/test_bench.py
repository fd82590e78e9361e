"""Promises [39] to [41]: what a bench is told and asked, row by row, and what it refuses."""

import unittest

from twomakes.bench import Bench
from twomakes.errors import MakeError, NoBell, NoLay, NoRow, NoState, NoStep, NoText

ONES = " 1 1 1 1 1 1 1 1"
WIDE = " 2 4 3 1 1 1 1 1"
SLOW_MILL = "mill put 1 3; mul 2 1 1; lay 2 1 0; home | 3"

# rows that ask all that can be asked of a bench
ASKING = (
    ("text",)
    + tuple(f"{word} {make} {m}" for word in ("ends", "bells", "hold") for make in ("one", "two") for m in (0, 3, 30, 100))
    + tuple(f"{word} {m}" for word in ("side", "least", "seen") for m in (0, 3, 25))
)


def told(*rows):
    bench = Bench()
    for row in rows:
        assert bench.say(row) == "ok", row
    return bench


def answers(bench):
    return [bench.say(row) for row in ASKING]


class Benches(unittest.TestCase):
    def hold(self, rows, **asked):
        """Behind rows that answer ok, what is asked (with _ for each blank) is answered so."""
        bench = told(*rows)
        for row, answer in asked.items():
            with self.subTest(rows=rows, row=row):
                said = bench.say(row.replace("_", " "))
                self.assertEqual(said, answer)
                self.assertIs(type(said), str)
        return bench

    def refuse(self, error, bench, rows):
        before = answers(bench)
        for row in rows:
            with self.subTest(row=row):
                with self.assertRaises(error) as caught:
                    bench.say(row)
                self.assertIs(type(caught.exception), error)
        self.assertEqual(answers(bench), before)


class ANewBench(Benches):
    def test_all_that_can_be_asked(self):
        self.hold(
            [], text="open", ends_one_0="none", ends_one_1="none", ends_one_2="0", ends_two_100="0",
            bells_one_100="none", bells_two_0="none", hold_one_0="right", hold_one_100="right", hold_two_100="right",
            side_0="alike", side_100="alike", least_0="none", least_25="none", seen_0="alike", seen_25="alike",
        )

    def test_no_bell_can_be_rung(self):
        self.refuse(NoBell, Bench(), ["ring 0 0", "ring 5 1", "ring 9999999999 9999999999"])

    def test_two_benches_beside_each_other(self):
        one, two = Bench(), Bench()
        one.say(SLOW_MILL)
        two.say("spots 7")
        one.say("ring 2 0")
        one.say("slip one 0 1")
        one.say("lay one" + WIDE)
        self.assertEqual((one.say("ends one 2"), two.say("ends one 2")), ("0/s1/4 1/s2/owed", "0"))
        self.assertEqual((one.say("text"), two.say("text")), (SLOW_MILL[5:], "open"))
        two.say("mill lay 0 0 0")
        self.assertEqual((one.say("ends one 2"), two.say("ends one 2")), ("0/s1/4 1/s2/owed", "0/c7/7"))
        self.assertEqual(answers(Bench()), answers(told()))


class RowsThatTell(Benches):
    def test_mill(self):
        for text in (
            "open", "put 1 5; go 1 0; home | 2 0", "home | 1 0 1 1", "; ".join(["put 7 4294967295"] * 40) + " | 40 40",
        ):
            self.hold(["mill " + text], text=text)

    def test_spots_and_cells(self):
        echo = "mill lay 0 7 0; lay 7 7 1"
        self.hold([echo, "spots 5"], ends_one_2="0/c0/5", ends_one_3="0/c0/5 1/c1/0")
        self.hold([echo, "spots 5 0 0 0 0 0 0 3"], ends_one_3="0/c3/5 1/c4/3")
        self.hold([echo, "spots 4294967296 0 0 0 0 0 0 9999999999"], ends_one_3="0/c15/0 1/c0/1410065407")
        self.hold([echo, "spots 5 0 0 0 0 0 0 3", "spots"], ends_one_3="0/c0/0 1/c1/0")
        self.hold([echo, "spots 5 0 0 0 0 0 0 3", "spots 1"], ends_one_3="0/c0/1 1/c1/0")
        takes = "mill take 1 0 0; take 2 0 15"
        self.hold([takes, "cells 9 0 0 0 0 0 0 0 0 0 0 0 0 0 0 4294967295"], ends_one_5="0/s1/9 1/s2/4294967295")
        self.hold([takes, "cells 9 0 0 0 0 0 0 0 0 0 0 0 0 0 0 8", "cells 6"], ends_one_5="0/s1/6 1/s2/0")
        self.hold([takes, "cells 9", "cells"], ends_one_5="0/s1/0 1/s2/0")

    def test_too_many_spots_and_cells(self):
        bench = told(SLOW_MILL, "spots 1 2 3", "cells 4 5 6")
        self.refuse(NoState, bench, [
            "spots" + " 0" * 9, "spots" + " 9999999999" * 20, "cells" + " 0" * 17, "cells" + " 1" * 60,
        ])
        self.assertEqual(bench.say("spots" + " 1" * 8), "ok")
        self.assertEqual(bench.say("cells" + " 1" * 16), "ok")

    def test_lay(self):
        rows = [SLOW_MILL, "lay one" + WIDE]
        self.hold(rows, ends_one_2="0/s1/3 1/s2/owed", ends_two_2="0/s1/3")
        self.hold(rows + ["lay two" + WIDE], ends_two_2="0/s1/3 1/s2/owed")
        self.hold(rows + ["lay one" + ONES], ends_one_2="0/s1/3")
        self.hold(["lay two 4 8 9 5 4 4 4 4", "lay one 4 8 9 5 4 4 4 4"], ends_two_2="0")

    def test_no_lays(self):
        greatest = (4, 8, 9, 5, 4, 4, 4, 4)
        rows = []
        for place in range(8):
            for number in (0, greatest[place] + 1, 9999999999):
                numbers = list(greatest[:place]) + [number] + list(greatest[place + 1:])
                rows += [f"lay {make} " + " ".join(str(one) for one in numbers) for make in ("one", "two")]
        self.refuse(NoLay, told(SLOW_MILL, "lay one" + WIDE), rows)

    def test_ring(self):
        mill = "mill put 1 1; home; home; home | 1 2"
        self.hold([mill, "ring 0 1"], bells_one_9="0:1", ends_one_9="2 0/s1/1 1 2 3", ends_two_9="2 0/s1/1 1 2 3")
        self.hold([mill, "ring 2 1", "ring 2 0"], bells_one_20="1:0 2:1", bells_two_20="1:0 2:1")
        self.hold([mill, "ring 2 1", "ring 2 1"], bells_one_20="1:1 2:1")
        self.hold([mill, "ring 9999999999 1"], bells_one_100="none", hold_one_100="right")

    def test_bells_that_the_mill_has_not(self):
        for mill, rows in (
            ("mill home | 0 0", ["ring 0 2", "ring 5 3", "ring 0 9999999999"]), ("mill home", ["ring 0 0"]),
            ("mill home | 0 0 0 0", ["ring 0 4"]),
        ):
            self.refuse(NoBell, told(mill), rows)

    def test_slip(self):
        rows = ["mill put 1 3; sum 2 1 1"]
        self.hold(rows + ["slip one 0 2"], ends_one_9="0/s1/5 1/s2/10", ends_two_9="0/s1/3 1/s2/6")
        self.hold(rows + ["slip two 1 -7"], ends_one_9="0/s1/3 1/s2/6", ends_two_9="0/s1/3 1/s2/4294967295")
        self.hold(rows + ["slip one 0 2", "slip one 0 -1"], ends_one_9="0/s1/4 1/s2/8")
        self.hold(rows + ["slip one 0 0", "slip one 9999999999 1"], ends_one_9="0/s1/3 1/s2/6", hold_one_9="right")
        self.hold(rows + ["slip one 0 9999999999", "slip two 0 -9999999999"],
                  ends_one_2="0/s1/1410065410", ends_two_2="0/s1/2884901892")

    def test_clear(self):
        mill = "mill put 1 3; home; home | 1"
        rows = [mill, "spots 0 0 6", "cells 1", "lay one" + WIDE, "ring 0 0", "slip one 1 2", "slip two 1 2"]
        self.hold(rows, bells_one_9="0:0", ends_two_9="1 0/s1/5 1 2")
        self.assertEqual(answers(told(*rows, "clear")), answers(told(*rows[:4])))
        self.assertEqual(answers(told("clear")), answers(Bench()))
        self.hold(rows + ["clear", "ring 2 0"], bells_one_9="2:0")

    def test_a_mill_told_again(self):
        mill = "mill lay 1 2 0; take 3 2 1; home | 1"
        rows = [mill, "spots 0 9 3", "cells 0 0 0 0 8", "lay one" + WIDE, "lay two 4 8 9 5 4 4 4 4"]
        marks = ["ring 0 0", "slip one 0 2", "slip two 1 2"]
        self.assertNotEqual(answers(told(*rows, *marks)), answers(told(*rows)))
        self.assertEqual(answers(told(*rows, *marks, mill)), answers(told(*rows)))
        other = "mill lay 1 2 1; home; home; take 3 2 1 | 1"
        self.assertEqual(answers(told(*rows, *marks, other)), answers(told(other, *rows[1:])))
        self.assertNotEqual(answers(told(*rows, other)), answers(told(other)))


class RowsThatAsk(Benches):
    def test_ends(self):
        self.hold([SLOW_MILL], ends_one_0="none", ends_one_1="none", ends_one_2="0/s1/3",
                  ends_one_3="0/s1/3 1/s2/owed", ends_one_4="0/s1/3 1/s2/9 2/c3/9",
                  ends_one_100="0/s1/3 1/s2/9 2/c3/9 3")
        mill = "mill lay 1 0 4; go 0 0; take 2 0 4"
        self.hold([mill, "spots 0 7"], ends_one_4="0/c4/7 1 2/s2/owed", ends_one_9="0/c4/7 1 2/s2/7")

    def test_bells(self):
        rows = [SLOW_MILL, "ring 2 0", "lay one" + WIDE]
        self.hold(rows, bells_one_20="2:0", bells_one_2="none", bells_one_3="2:0", bells_two_20="1:0")
        self.hold(rows + ["ring 0 0", "ring 50 0"], bells_one_100="0:0 1:0 6:0")

    def test_hold(self):
        rows = [SLOW_MILL, "ring 2 0", "lay one" + WIDE]
        self.hold(rows, hold_one_0="right", hold_one_20="right", hold_two_20="right")
        self.hold(rows + ["slip one 0 1"], hold_one_20="0 worth", hold_one_1="right", hold_two_20="right")
        self.hold(rows + ["slip one 1 -4"], hold_one_20="4 worth", hold_one_4="right")
        self.hold(rows + ["slip one 2 -4"], hold_one_20="right")
        self.hold(rows + ["slip two 2 4"], hold_one_20="right", hold_two_20="4 worth")
        self.hold(rows + ["slip two 1 4"], hold_one_20="right", hold_two_20="right")

    def test_side(self):
        rows = [SLOW_MILL, "ring 2 0", "lay one" + WIDE]
        self.hold(rows, side_0="alike", side_20="alike", side_100="alike")
        self.hold(rows + ["slip one 0 1"], side_20="0 worth", side_1="alike")
        self.hold(rows + ["slip two 0 1"], side_20="0 worth")
        self.hold(rows + ["slip one 1 1", "slip two 1 1"], side_20="alike")
        self.hold(rows + ["slip two 1 1"], side_20="1 worth")
        self.hold(["mill put 1 0; go 1 3; home; home", "slip two 0 5"], side_20="0 worth")
        self.hold(["mill sum 1 1 2; lay 1 1 0", "slip two 0 16"], side_20="0 worth")

    def test_side_of_places_and_things(self):
        # a slip that is not told as a worth yet, since it stands owed in both, parts by what comes behind
        mill = "mill mul 1 2 2; go 1 3; home; home"
        self.hold([mill, "lay one 1 1 9 1 1 1 1 1", "slip two 0 1"], side_4="alike", side_12="0 worth")

    def test_side_makes_two_led_not_rung(self):
        # two by itself would look at bells in every fourth beat only
        rows = ["mill home; home; home; home; home | 4", "ring 1 0", "lay two 1 1 1 1 1 1 4 1"]
        self.hold(rows, bells_one_20="0:0", bells_two_20="3:0", side_20="alike")

    def test_least(self):
        rows = [SLOW_MILL, "ring 2 0", "lay one" + WIDE]
        self.hold(rows, least_0="none", least_25="5/c3", least_2="2/s2")
        self.hold(["mill put 1 3; put 1 4; put 2 5; lay 2 1 0"], least_25="1/s1 4/c4")
        self.hold(["mill go 1 0"], least_25="none")

    def test_least_counts_the_ends_of_make_one_with_its_slips(self):
        # with the slip make one goes a shorter way, so that the plain one has a shorter walk, too
        mill = "mill put 1 0; go 1 4; put 2 6; go 0 9; put 3 1; put 3 2; put 3 3; put 4 4; put 5 5"
        bench = told(mill, "lay one 4 8 1 1 1 1 1 1")
        whole = bench.say("least 25")
        bench.say("slip one 0 1")
        self.assertEqual(bench.say("ends one 25"), "0/s1/1 1 4/s3/1 5/s3/2 6/s3/3 7/s4/4 8/s5/5")
        self.assertEqual(len(whole.split(" ")), 7)
        self.assertEqual(len(bench.say("least 25").split(" ")), 5)

    def test_seen(self):
        rows = [SLOW_MILL, "ring 2 0", "lay one" + WIDE]
        self.hold(rows, seen_0="alike", seen_25="alike")
        self.hold(rows + ["slip one 1 -4"], seen_25="5 c3 : 0 1 3", seen_2="alike")
        self.hold(rows + ["slip two 1 -4"], seen_25="alike")
        self.hold(["mill put 1 3; put 1 4; put 2 5", "slip one 0 1"], seen_25="1 s1 : 0")
        self.hold(["mill put 1 3; put 1 4; put 2 5", "slip one 1 1"], seen_25="3 s1 : 1")
        self.hold(["mill put 1 3; put 1 4; put 2 5", "slip one 1 1", "slip one 2 1"], seen_25="3 s1 s2 : none")

    def test_seen_next(self):
        self.hold(["mill put 1 0; go 1 3; home; home", "slip one 0 1"], seen_25="2 next : 0")
        self.hold(["mill put 1 0; go 1 3; home; lay 1 1 2", "slip one 0 1"], seen_25="2 next : 0")

    def test_seen_of_several_things(self):
        # the cell that was to be written and the next place, in the order of their names
        mill = "mill put 1 3; lay 1 1 0; sum 2 1 1; sum 1 0 0; go 0 9; home; home; home; home"
        self.hold([mill, "slip one 0 1"], least_25="9/c3 9/s1 9/s2", seen_25="9 c3 s2 : 0")

    def test_the_most_beats(self):
        bench = told("mill put 1 1; go 1 0", "lay one 4 8 1 1 1 1 1 1", "lay two 4 8 1 1 1 1 1 1")
        self.assertEqual(len(bench.say("ends one 100").split(" ")), 396)
        self.assertEqual(len(bench.say("least 25").split(" ")), 48)
        for row in ASKING:
            bench.say(row)
        for word in ("ends one", "bells one", "hold one", "ends two", "bells two", "hold two", "side"):
            bench.say(word + " 100")
            self.refuse(NoStep, bench, [f"{word} {m}" for m in (101, 102, 1000, 9999999999)])
        for word in ("least", "seen"):
            bench.say(word + " 25")
            self.refuse(NoStep, bench, [f"{word} {m}" for m in (26, 27, 100, 101, 9999999999)])


class NothingToTell(Benches):
    """The last sentence of [40]: none stands where the ends, bells, holds or suspects would stand."""

    def test_no_ends(self):
        for rows in ([], [SLOW_MILL], [SLOW_MILL, "lay one" + WIDE, "lay two 4 8 9 5 4 4 4 4", "slip two 0 1"]):
            self.hold(rows, ends_one_0="none", ends_two_0="none")
        # a bell that is taken ahead of the first end is told, while there are no ends yet
        self.hold([SLOW_MILL, "ring 0 0"], ends_one_1="none", ends_two_1="none", bells_one_1="0:0", bells_two_1="0:0")

    def test_no_bells(self):
        self.hold([SLOW_MILL], bells_one_0="none", bells_one_100="none", bells_two_0="none", bells_two_100="none")
        self.hold([SLOW_MILL, "ring 5 0", "lay one" + WIDE], bells_one_4="none", bells_two_4="none", bells_two_20="4:0")
        self.hold([SLOW_MILL, "ring 2 0", "clear"], bells_one_20="none", bells_two_20="none")

    def test_no_holds(self):
        self.hold(["mill put 1 3; put 2 4"], least_0="none", least_1="none", least_2="1/s1")
        # there are ends, but they write nothing that could be held
        self.hold(["mill shut; open; home"], ends_one_25="0 1 2", least_25="none", seen_25="alike")

    def test_no_suspects(self):
        mill = "mill put 0 1; put 1 1"
        self.hold([mill, "slip one 0 1", "slip one 1 1"], seen_10="2 s0 s1 : none", seen_2="1 s0 : 0", seen_0="alike")
        self.hold([mill, "slip two 0 1", "slip two 1 1"], seen_10="alike")
        mill = "mill put 1 3; sum 3 1 1; put 2 5; sum 4 2 2"
        self.hold([mill, "slip one 1 1", "slip one 3 1"], least_25="4/s3 4/s4", seen_25="4 s3 s4 : none")
        # the way to the later cell leads over step 2, on which then both cells hang
        mill = "mill put 1 3; lay 1 1 0; put 2 5; lay 2 2 0"
        self.hold([mill, "slip one 1 1", "slip one 3 1"], least_25="4/c3 4/c5", seen_25="4 c3 c5 : 2")

    def test_something_to_tell(self):
        self.hold(["mill put 0 1; put 1 1", "slip one 0 1"], ends_one_10="0/s0/2 1/s1/1", least_10="2/s0 2/s1",
                  seen_10="2 s0 : 0")


class NoRows(Benches):
    ROWS = (
        "mill open", "spots", "spots 1", "spots 1 2", "cells", "cells 1", "lay one" + ONES, "ring 0 0", "slip one 0 1",
        "slip one 0 -1", "clear", "text", "ends one 1", "bells one 1", "hold one 1", "side 1", "least 1", "seen 1",
    )

    def bench(self):
        return told(SLOW_MILL, "spots 1 2", "cells 3", "lay one" + WIDE, "ring 1 0", "slip one 1 1")

    def test_the_rows_themselves_are_some(self):
        for row in self.ROWS:
            self.bench().say(row)

    def test_blanks_more_or_fewer(self):
        rows = ["", " ", "  "]
        for row in self.ROWS:
            rows.append(" " + row)
            if not row.startswith("mill"):
                rows += [row + " ", row + "  ", row.replace(" ", "  ")] if " " in row else [row + " "]
                rows += [row.replace(" ", "", 1)] if " " in row else []
        self.refuse(NoRow, self.bench(), rows)

    def test_words_more_or_fewer(self):
        rows = []
        for row in self.ROWS:
            words = row.split(" ")
            if words[0] not in ("mill", "spots", "cells"):
                rows += [row + " 1", row + " one", row + " " + words[0]]
                rows += [" ".join(words[:count]) for count in range(len(words))]
        self.refuse(NoRow, self.bench(), rows)

    def test_other_words(self):
        self.refuse(NoRow, self.bench(), [
            "Mill open", "mil open", "mills open", "open", "put 1 5", "spot 1", "cell 1", "lays one" + ONES, "rings 0 0",
            "slips one 0 1", "Clear", "clears", "texts", "TEXT", "end one 1", "bell one 1", "holds one 1", "sides 1",
            "leasts 1", "see 1", "N", "ok", "one", "one 1", "1", "help", "none", "ends three 1", "ends 1 1",
            "ends One 1", "ends on 1", "ends ones 1", "lay 1" + ONES, "lay" + ONES + " 1", "slip 0 one 1", "side one",
            "least one", "seen two", "side one 1", "hold two one", "text 1", "ring one 0", "ring 0 one", "slip one one 1",
        ])

    def test_mill_without_a_blank(self):
        self.refuse(NoRow, self.bench(), ["mill", "millopen", "mill;open", "mill|", "mil", "mill-"])

    def test_numbers_that_are_none(self):
        rows = []
        for number in (
            "00", "01", "0000000001", "+1", "-1", "-0", "+0", "--1", "1-", "-", "+", "12345678901", "00000000000",
            "99999999999", "1" * 60, "9" * 1400, "a", "1a", "0x1", "1_0", "1.0", "1e1", "", "one", "N", "1,",
        ):
            rows += [form.replace("N", number) for form in (
                "spots N", "spots 1 N", "spots N 1", "cells N", "lay one N 1 1 1 1 1 1 1", "lay two 1 1 1 1 1 1 1 N",
                "ring N 0", "ring 0 N", "slip one N 1", "ends one N", "bells two N", "hold one N", "side N", "least N",
                "seen N",
            ) if not number == "" or form != "spots N 1"]
            if number != "-1":
                rows.append("slip one 0 " + number)
        rows += ["slip one 0 -01", "slip one 0 -00", "slip one 0 --1", "slip one 0 -12345678901", "slip one -1 1"]
        self.refuse(NoRow, self.bench(), rows)

    def test_numbers_of_ten_figures(self):
        bench = self.bench()
        for row in (
            "spots 9999999999 1000000000", "cells 9999999999", "ring 9999999999 0", "slip one 9999999999 9999999999",
            "slip two 0 -9999999999",
        ):
            self.assertEqual(bench.say(row), "ok")

    def test_texts_that_write_no_mill(self):
        self.refuse(NoText, self.bench(), [
            "mill ", "mill  ", "mill  open", "mill open ", "mill hop", "mill put 1", "mill put 01 5", "mill home |",
            "mill open | 2", "mill mill open", "mill open;open", "mill put 1 4294967296", "mill 1", "mill one",
            "mill " + "; ".join(["home"] * 41), "mill home | 0 0 0 0 0", "mill put 1 " + "9" * 1400,
        ])

    def test_which_refusal_goes_first(self):
        bench = self.bench()
        self.refuse(NoRow, bench, [
            "spots" + " 0" * 9 + " a", "cells" + " 0" * 17 + " -1", "lay one 0 0 0 0 0 0 0", "lay one 9 9 9 9 9 9 9 9 9",
            "lay three 0 0 0 0 0 0 0 0", "lay one 0 1 1 1 1 1 1 01", "ring 01 7", "ring 0 7 7", "ring -1 7",
            "ends one 101 1", "ends three 101", "ends one 0101", "side 0101", "least 26 1", "seen -26",
            "side 10000000000", "least 10000000000",
        ])

    def test_each_refusal_is_a_make_error(self):
        for row in ("", "mill ", "spots" + " 0" * 9, "lay one" + " 0" * 8, "ring 0 9", "side 101"):
            self.assertRaises(MakeError, self.bench().say, row)


if __name__ == "__main__":
    unittest.main()
