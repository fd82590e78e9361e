"""Promises [19], [20] and [21]: each rule just kept and just broken, which of several is told, and pressed ends."""

import unittest

from helper import bell, cell, down, end, late, spot, terms
from twomakes.holder import Holder, parting
from twomakes.plain import start
from twomakes.texts import read_mill

FAR = 10 ** 59
GREATEST_WORTH = 4294967295


class Held(unittest.TestCase):
    def hold(self, text, diary, told, numbers=None, rings=(), spots=(), cells=(), state=None):
        """The parting of the diary is the one told, by one asking and event by event."""
        mill = read_mill(text)
        begin = start(list(spots), list(cells)) if state is None else state
        bounds = terms(**(numbers or {}))
        with self.subTest(text=text, diary=diary, told=told, numbers=numbers):
            self.assertEqual(parting(mill, begin, list(rings), bounds, diary), told)
            holder = Holder(mill, begin, list(rings), bounds)
            for index, event in enumerate(diary):
                cause = told[1] if told is not None and index >= told[0] else None
                self.assertEqual(holder.tell(event), cause)
                self.assertEqual(holder.parted(), told if cause else None)

    def right(self, text, diary, numbers=None, **others):
        self.hold(text, diary, None, numbers, **others)

    def last(self, cause, text, diary, numbers=None, **others):
        """The last event breaks the rule, and does so whatever stands behind it."""
        told = (len(diary) - 1, cause)
        self.hold(text, diary, told, numbers, **others)
        beat = diary[-1][1]
        for more in (diary[-1], bell(beat - 1, 9), end(beat, 0, spot(1, 1)), late(-1, -1, -1), down(FAR, 0, 0, 0)):
            self.hold(text, diary + [more], told, numbers, **others)


class OfEachEvent(Held):
    # one mill in which each kind of event can come behind the first two ends
    TEXT = "lay 0 0 0; mul 1 0 0; put 2 7 | 2"
    AHEAD = [end(5, 0, cell(0, 0)), end(5, 1, spot(1))]
    ROOM = {"width": 9, "room": 1, "longest": 4, "patience": 9}
    RINGS = [(0, 0)]

    def kinds(self, beat):
        return (end(beat, 2, spot(2, 7)), late(beat, 1, 0), down(beat, 0, 0, 0), bell(beat, 0))

    def test_no_events(self):
        self.right(self.TEXT, [])
        self.right("open", [], rings=[], state=(1, (0,) * 8, (0,) * 16, True, 0))

    def test_beat_of_the_first(self):
        self.right("put 1 5", [end(0, 0, spot(1, 5))])
        self.right("put 1 5 | 0", [bell(0, 0)], rings=[(0, 0)])
        for event in (end(-1, 0, spot(1, 5)), bell(-1, 0), late(-1, 0, 0), down(-1, 0, 0, 0), end(-FAR, 9)):
            self.last("beat", "put 1 5 | 0", [event], rings=[(0, 0)])

    def test_beat_behind_another(self):
        for beat in (5, 6, 9):
            for event in self.kinds(beat):
                self.right(self.TEXT, self.AHEAD + [event], self.ROOM, rings=self.RINGS)
        for beat in (4, 0, -1, -FAR):
            for event in self.kinds(beat):
                self.last("beat", self.TEXT, self.AHEAD + [event], self.ROOM, rings=self.RINGS)

    def test_beat_behind_each_kind(self):
        for ahead in self.kinds(6):
            for behind in self.kinds(6):
                if behind[0] != ahead[0]:
                    self.last(
                        "beat", self.TEXT, self.AHEAD + [ahead, (behind[0], 5) + behind[2:]], self.ROOM,
                        rings=self.RINGS,
                    )

    def test_beat_of_sixty_figures(self):
        self.right("put 1 5; put 2 6", [end(FAR, 0, spot(1, 5)), end(FAR + 1, 1, spot(2, 6))])
        self.last("beat", "put 1 5; put 2 6", [end(FAR, 0, spot(1, 5)), end(FAR - 1, 1, spot(2, 6))])

    def test_overdue(self):
        for event in self.kinds(9):
            self.right(self.TEXT, self.AHEAD + [event], self.ROOM, rings=self.RINGS)
        for beat in (10, 11, FAR):
            for event in self.kinds(beat):
                self.last("overdue", self.TEXT, self.AHEAD + [event], self.ROOM, rings=self.RINGS)

    def test_overdue_at_once(self):
        diary = [end(3, 0, spot(1))]
        bounds = {"room": 1, "longest": 0}
        self.right("mul 1 0 0; home", diary + [late(3, 0, 0), end(4, 1)], bounds)
        self.last("overdue", "mul 1 0 0; home", diary + [late(4, 0, 0)], bounds)
        self.last("overdue", "mul 1 0 0; home", diary + [end(4, 1)], bounds)

    def test_overdue_by_sixty_figures(self):
        diary = [end(FAR, 0, spot(1))]
        bounds = {"room": FAR, "longest": FAR - 1}
        self.right("mul 1 0 0", diary + [late(2 * FAR - 1, 0, 0)], bounds)
        self.last("overdue", "mul 1 0 0", diary + [late(2 * FAR, 0, 0)], bounds)

    def test_overdue_of_several(self):
        text = "mul 1 0 0; mul 2 0 0; home"
        diary = [end(0, 0, spot(1)), end(2, 1, spot(2))]
        bounds = {"room": 2, "longest": 3}
        self.right(text, diary + [late(3, 0, 0), late(5, 1, 0), end(9, 2)], bounds)
        self.right(text, diary + [late(3, 1, 0), late(3, 0, 0), end(9, 2)], bounds)
        self.last("overdue", text, diary + [late(3, 1, 0), late(4, 0, 0)], bounds)
        self.last("overdue", text, diary + [late(3, 0, 0), late(6, 1, 0)], bounds)

    def test_laid_worths_are_never_overdue(self):
        self.right("lay 0 0 0; home", [end(0, 0, cell(0, 0)), end(FAR, 1), down(2 * FAR, 0, 0, 0)])


class OfEnds(Held):
    def test_rest(self):
        diary = [end(0, 0, spot(1, 5))]
        self.right("put 1 5", diary)
        for place in (1, 0, 2, -1):
            self.last("rest", "put 1 5", diary + [end(1, place)])
            self.last("rest", "put 1 5", diary + [end(1, place, spot(1, 5))])
        self.last("rest", "put 1 5", [end(0, 0, spot(1, 5))], state=(1, (0,) * 8, (0,) * 16, False, None))

    def test_rest_is_left_by_a_bell(self):
        diary = [end(0, 0, spot(1, 5)), bell(1, 0), end(1, 0, spot(1, 5))]
        self.right("put 1 5 | 0", diary, rings=[(1, 0)])
        self.last("rest", "put 1 5 | 1", diary, rings=[(1, 0)])

    def test_place(self):
        self.right("go 0 2; home; home", [end(0, 0), end(1, 1), end(2, 2)])
        for place in (0, 2, -1, 3, FAR, -FAR):
            self.last("place", "go 0 2; home; home", [end(0, 0), end(1, place)])
        self.right("go 0 2; home; home", [end(0, 0), end(1, 2)], spots=[1])
        self.last("place", "go 0 2; home; home", [end(0, 0), end(1, 1)], spots=[1])

    def test_place_behind_bells_and_homes(self):
        rings = [(0, 0)]
        self.right("put 1 5; home | 1", [bell(0, 0), end(0, 1), end(1, 0, spot(1, 5))], rings=rings)
        self.last("place", "put 1 5; home | 1", [bell(0, 0), end(0, 0, spot(1, 5))], rings=rings)
        self.last("place", "put 1 5; home; home | 1", [bell(0, 0), end(0, 1), end(1, 2)], rings=rings)

    def test_crowd(self):
        homes = "; ".join(["home"] * 6)
        for width in (1, 2, 4):
            diary = [end(7, place) for place in range(width)]
            self.right(homes, diary + [end(8, width)], {"width": width})
            self.last("crowd", homes, diary + [end(7, width)], {"width": width})
        diary = [end(7, 0), end(8, 1), end(8, 2)]
        self.last("crowd", homes, diary + [end(8, 3)], {"width": 2})
        self.right(homes, diary + [end(9, 3), end(9, 4)], {"width": 2})
        self.right(homes, [end(0, place) for place in range(6)], {"width": FAR})

    def test_crowd_counts_ends_alone_whatever_stands_between(self):
        text = "lay 0 0 0; mul 1 0 0; home; home | 2"
        between = [end(3, 0, cell(0, 0)), down(3, 0, 0, 0), end(3, 1, spot(1)), late(3, 1, 0), bell(3, 0)]
        bounds = {"room": 1, "patience": 9}
        self.right(text, between + [end(3, 2)], dict(bounds, width=3), rings=[(3, 0)])
        self.right(text, between + [end(4, 2)], dict(bounds, width=2), rings=[(3, 0)])
        self.last("crowd", text, between + [end(3, 2)], dict(bounds, width=2), rings=[(3, 0)])

    def test_ahead_by_what_a_row_reads_or_writes(self):
        owing = [end(0, 0, spot(1))]
        rows = {
            "put 1 5": (), "sum 1 2 3": (), "sum 2 1 3": (), "sum 2 3 1": (), "mul 1 2 3": (), "mul 2 1 3": (),
            "mul 2 3 1": (), "less 1 2 3": (), "less 2 1 3": (), "less 2 3 1": (), "take 1 2 0": (),
            "take 2 1 0": (), "lay 1 2 0": (), "lay 2 1 0": (), "go 1 0": (),
            "put 2 0": spot(2, 0), "sum 2 3 4": spot(2, 0), "mul 2 3 4": spot(2, 0), "less 2 3 4": spot(2, 0),
            "take 2 3 1": spot(2, 0), "lay 2 3 1": cell(1, 0), "go 2 1": None, "shut": None, "open": None,
            "home": None,
        }
        for row, wrote in rows.items():
            for second in (0, 1):
                diary = owing + [end(second, 1, None if wrote == () else wrote)]
                bounds = {"room": 2, "longest": 1, "width": 2}
                if wrote == ():
                    self.last("ahead", "mul 1 0 0; " + row, diary, bounds)
                else:
                    self.right("mul 1 0 0; " + row, diary, bounds)

    def test_ahead_no_more_behind_the_late(self):
        self.right("mul 1 0 0; sum 2 1 1", [end(0, 0, spot(1)), late(0, 0, 0), end(1, 1, spot(2, 0))], {"room": 1})

    def test_ahead_of_one_of_several(self):
        owing = [end(0, 0, spot(1)), end(0, 1, spot(2)), late(0, 0, 0)]
        bounds = {"room": 2, "width": 3}
        self.right("mul 1 0 0; mul 2 0 0; sum 3 1 1", owing + [end(0, 2, spot(3, 0))], bounds)
        self.last("ahead", "mul 1 0 0; mul 2 0 0; sum 3 2 1", owing + [end(0, 2, spot(3, 0))], bounds)

    def test_thing(self):
        for row, right, wrongs in (
            ("put 3 5", spot(3, 5), (None, spot(2, 5), spot(4, 5), cell(3, 5), spot(-3, 5), spot(FAR, 5))),
            ("sum 3 1 2", spot(3, 5), (None, spot(2, 5), cell(3, 5))),
            ("mul 3 1 2", spot(3, 6), (None, spot(2, 6), cell(3, 6), spot(2))),
            ("less 3 1 2", spot(3, 1), (None, spot(2, 1), cell(3, 1))),
            ("take 3 1 2", spot(3, 44), (None, spot(2, 44), cell(3, 44), cell(4, 44))),
            ("lay 1 2 1", cell(4, 2), (None, cell(3, 2), cell(5, 2), spot(4, 2), spot(4))),
            ("go 1 0", None, (spot(1, 2), spot(1), cell(0, 2), cell(0, 0))),
            ("shut", None, (spot(0, 0), cell(0, 0))),
            ("open", None, (spot(0, 0), cell(0, 0))),
            ("home", None, (spot(0, 0), cell(0, 0))),
        ):
            values = {"spots": [0, 2, 3], "cells": [0, 0, 0, 0, 44]}
            self.right(row, [end(0, 0, right)], **values)
            for wrong in wrongs:
                self.last("thing", row, [end(0, 0, wrong)], {"room": 1}, **values)

    def test_thing_of_the_last_cell(self):
        state = (0, (GREATEST_WORTH,) * 8, (0,) * 16, False, None)
        self.right("lay 1 2 0", [end(0, 0, cell(15, GREATEST_WORTH))], state=state)
        self.right("lay 1 2 1", [end(0, 0, cell(0, GREATEST_WORTH))], state=state)
        self.last("thing", "lay 1 2 1", [end(0, 0, cell(16, GREATEST_WORTH))], state=state)

    def test_owed(self):
        for row in ("mul 1 2 3", "take 1 2 3"):
            self.right(row, [end(0, 0, spot(1))], {"room": 1})
            self.right(row, [end(0, 0, spot(1, 0))], {"room": 1})
        for row in ("put 1 0", "sum 1 2 3", "less 1 2 3"):
            self.right(row, [end(0, 0, spot(1, 0))], {"room": 1})
            self.last("owed", row, [end(0, 0, spot(1))], {"room": 1})

    def test_worth(self):
        values = {"spots": [0, 2, 3, GREATEST_WORTH], "cells": [0, 0, 0, 0, 44]}
        for row, wrote in (
            ("put 4 0", spot(4, 0)), ("put 4 4294967295", spot(4, GREATEST_WORTH)), ("sum 4 1 2", spot(4, 5)),
            ("sum 4 3 1", spot(4, 1)), ("mul 4 1 2", spot(4, 6)), ("mul 4 3 3", spot(4, 1)),
            ("less 4 1 2", spot(4, 1)), ("less 4 2 1", spot(4, 0)), ("take 4 1 2", spot(4, 44)),
            ("lay 3 1 0", cell(2, GREATEST_WORTH)), ("lay 0 1 0", cell(2, 0)),
        ):
            self.right(row, [end(0, 0, wrote)], **values)
            for add in (1, -1, 2 ** 32, -2 ** 32, FAR, -FAR):
                self.last("worth", row, [end(0, 0, wrote[:2] + (wrote[2] + add,))], {"room": 1}, **values)

    def test_worth_of_a_spot_that_was_read_late(self):
        diary = [end(0, 0, spot(1)), late(1, 0, 9), end(1, 1, spot(2, 18))]
        bounds = {"room": 1, "longest": 1}
        self.right("mul 1 3 3; sum 2 1 1", diary, bounds, spots=[0, 0, 0, 3])
        self.last("worth", "mul 1 3 3; sum 2 1 1", diary[:2] + [end(1, 1, spot(2, 17))], bounds, spots=[0, 0, 0, 3])

    def test_worth_of_a_cell_that_waits(self):
        diary = [end(0, 0, cell(0, 5)), end(1, 1, spot(2, 5)), down(2, 0, 0, 5)]
        self.right("lay 1 0 0; take 2 0 0", diary, spots=[0, 5], cells=[9])
        self.last("worth", "lay 1 0 0; take 2 0 0", diary[:1] + [end(1, 1, spot(2, 9))], spots=[0, 5], cells=[9])

    def test_room(self):
        text = "; ".join(f"mul {d} 0 0" for d in range(1, 7))
        for room in (0, 1, 2, 5):
            owing = [end(0, d, spot(d + 1)) for d in range(room)]
            bounds = {"room": room, "width": 9, "longest": 1}
            self.right(text, owing + [end(0, room, spot(room + 1, 0))], bounds)
            self.last("room", text, owing + [end(0, room, spot(room + 1))], bounds)
            for n in range(room):
                self.right(text, owing + [late(0, n, 0), end(0, room, spot(room + 1))], bounds)
        self.right(text, [end(0, d, spot(d + 1)) for d in range(6)], {"room": FAR, "width": FAR})

    def test_room_of_takes(self):
        diary = [end(0, 0, spot(1)), end(1, 1, spot(2))]
        self.right("take 1 0 0; mul 2 0 0", diary, {"room": 2, "longest": 1})
        self.last("room", "take 1 0 0; take 2 0 0", diary, {"room": 1, "longest": 1})
        self.last("room", "take 1 0 0", diary[:1])

    def test_room_of_lays(self):
        text = "; ".join(["lay 1 0 3"] * 6)
        for queue in (1, 2, 5):
            laying = [end(0, place, cell(3, 7)) for place in range(queue)]
            bounds = {"queue": queue, "width": 9}
            values = {"spots": [0, 7]}
            self.right(text, laying, bounds, **values)
            self.last("room", text, laying + [end(0, queue, cell(3, 7))], bounds, **values)
            self.right(text, laying + [down(0, 0, 3, 7), end(0, queue, cell(3, 7))], bounds, **values)
        self.right(text, [end(0, place, cell(3, 7)) for place in range(6)], {"queue": FAR, "width": 6}, spots=[0, 7])

    def test_room_of_owed_and_laid_are_apart(self):
        text = "mul 1 0 0; lay 2 0 0; mul 3 0 0; lay 2 0 1"
        diary = [end(0, 0, spot(1)), end(0, 1, cell(0, 0)), end(0, 2, spot(3)), end(0, 3, cell(1, 0))]
        self.right(text, diary, {"width": 4, "room": 2, "queue": 2})
        self.last("room", text, diary, {"width": 4, "room": 2, "queue": 1})
        self.last("room", text, diary[:3], {"width": 4, "room": 1, "queue": 2})


class OfLates(Held):
    TEXT = "put 1 3; mul 2 1 1; take 3 0 0; home"
    OWING = [end(0, 0, spot(1, 3)), end(0, 1, spot(2)), end(0, 2, spot(3))]
    BOUNDS = {"width": 4, "room": 2, "longest": 2}

    def test_in_any_order(self):
        for first, second in ((late(1, 1, 9), late(2, 2, 8)), (late(1, 2, 8), late(2, 1, 9))):
            self.right(self.TEXT, self.OWING + [first, second], self.BOUNDS, cells=[8])

    def test_stray(self):
        for n in (0, 3, 4, -1, -2, FAR, -FAR):
            for worth in (9, 3):
                self.last("stray", self.TEXT, self.OWING + [late(1, n, worth)], self.BOUNDS, cells=[8])
        self.last("stray", self.TEXT, self.OWING + [end(0, 3), late(1, 3, 0)], self.BOUNDS, cells=[8])

    def test_stray_the_second_time(self):
        self.last("stray", self.TEXT, self.OWING + [late(1, 1, 9), late(1, 1, 9)], self.BOUNDS, cells=[8])

    def test_stray_of_a_slow_row_that_told_its_worth(self):
        self.last("stray", "mul 2 1 1", [end(0, 0, spot(2, 0)), late(0, 0, 0)], {"room": 1})

    def test_stray_of_nothing(self):
        self.last("stray", "mul 2 1 1", [late(0, 0, 0)], {"room": 1})

    def test_worth(self):
        for n, worth in ((1, 9), (2, 8)):
            for add in (1, -1, 2 ** 32, -2 ** 32, FAR, -FAR):
                self.last("worth", self.TEXT, self.OWING + [late(1, n, worth + add)], self.BOUNDS, cells=[8])

    def test_worth_is_the_one_by_the_end_whatever_came_behind(self):
        # the spots read and the cell are written anew before the lates
        text = "mul 1 2 2; take 3 4 0; put 2 7; lay 2 4 0"
        diary = [end(0, 0, spot(1)), end(0, 1, spot(3)), end(0, 2, spot(2, 7)), end(0, 3, cell(0, 7))]
        bounds = {"width": 4, "room": 2}
        values = {"spots": [0, 0, 5], "cells": [6]}
        self.right(text, diary + [late(0, 0, 25), late(0, 1, 6), down(0, 3, 0, 7)], bounds, **values)
        self.last("worth", text, diary + [late(0, 0, 49)], bounds, **values)
        self.last("worth", text, diary + [late(0, 1, 7)], bounds, **values)


class OfDowns(Held):
    TEXT = "lay 1 0 3; lay 2 0 4; home; lay 1 0 5"
    LAYING = [end(0, 0, cell(3, 7)), end(0, 1, cell(4, 8))]
    BOUNDS = {"width": 4, "queue": 2}
    VALUES = {"spots": [0, 7, 8]}

    def test_in_their_order(self):
        self.right(self.TEXT, self.LAYING + [down(0, 0, 3, 7), down(1, 1, 4, 8)], self.BOUNDS, **self.VALUES)

    def test_stray(self):
        for n in (1, 2, 3, -1, FAR, -FAR):
            for at, worth in ((3, 7), (4, 8)):
                self.last("stray", self.TEXT, self.LAYING + [down(0, n, at, worth)], self.BOUNDS, **self.VALUES)

    def test_stray_where_none_waits(self):
        self.last("stray", self.TEXT, [down(0, 0, 3, 7)], self.BOUNDS, **self.VALUES)
        ahead = self.LAYING + [down(0, 0, 3, 7), down(1, 1, 4, 8)]
        for n in (0, 1, 2):
            self.last("stray", self.TEXT, ahead + [down(1, n, 4, 8)], self.BOUNDS, **self.VALUES)

    def test_stray_the_second_time(self):
        self.last(
            "stray", self.TEXT, self.LAYING + [down(0, 0, 3, 7), down(0, 0, 3, 7)], self.BOUNDS, **self.VALUES
        )

    def test_stray_of_an_end_that_is_no_lay(self):
        self.last("stray", "put 1 0", [end(0, 0, spot(1, 0)), down(0, 0, 0, 0)])

    def test_thing(self):
        for at in (2, 4, -13, 19, 0, FAR):
            self.last("thing", self.TEXT, self.LAYING + [down(0, 0, at, 7)], self.BOUNDS, **self.VALUES)

    def test_worth(self):
        for worth in (6, 8, 7 + 2 ** 32, 7 - 2 ** 32, 0, FAR, -FAR):
            self.last("worth", self.TEXT, self.LAYING + [down(0, 0, 3, worth)], self.BOUNDS, **self.VALUES)

    def test_two_of_one_cell(self):
        text = "lay 1 0 3; lay 2 0 3"
        laying = [end(0, 0, cell(3, 7)), end(0, 1, cell(3, 8))]
        self.right(text, laying + [down(0, 0, 3, 7), down(0, 1, 3, 8)], self.BOUNDS, **self.VALUES)
        self.last("worth", text, laying + [down(0, 0, 3, 8)], self.BOUNDS, **self.VALUES)
        self.last("stray", text, laying + [down(0, 1, 3, 8)], self.BOUNDS, **self.VALUES)


class OfBells(Held):
    TEXT = "home; put 1 5; open; home | 1 1 2 0"

    def test_stray(self):
        self.right(self.TEXT, [bell(4, 1)], rings=[(4, 1)])
        self.right(self.TEXT, [bell(9, 1)], rings=[(4, 1)])
        self.last("stray", self.TEXT, [bell(3, 1)], rings=[(4, 1)])
        self.last("stray", self.TEXT, [bell(4, 1)], rings=[])
        for k in (0, 2, 3, 4, -1, -3, FAR, -FAR):
            self.last("stray", self.TEXT, [bell(4, k)], rings=[(4, 1)])

    def test_stray_of_the_last_bell_by_its_number_from_behind(self):
        self.last("stray", "home | 0", [bell(0, -1)], rings=[(0, 0)])

    def test_as_often_as_rung(self):
        twice = [bell(0, 2), end(0, 2), bell(1, 2), end(1, 2)]
        self.right(self.TEXT, twice, rings=[(0, 2), (0, 2)])
        self.right(self.TEXT, twice, rings=[(1, 2), (0, 2)])
        self.last("stray", self.TEXT, twice[:3], rings=[(0, 2)])
        self.last("stray", self.TEXT, twice[:3], rings=[(0, 2), (2, 2)])
        self.right(self.TEXT, twice[:2] + [bell(2, 2)], rings=[(2, 2), (0, 2)])
        self.last("stray", self.TEXT, twice + [bell(1, 2)], rings=[(0, 2), (0, 2)])

    def test_shut(self):
        ahead = [bell(0, 0), end(0, 1, spot(1, 5))]
        rings = [(0, 0), (0, 1)]
        self.last("shut", self.TEXT, [bell(0, 0), bell(0, 1)], rings=rings)
        self.last("shut", self.TEXT, ahead + [bell(1, 1)], rings=rings)
        self.right(self.TEXT, ahead + [end(1, 2), bell(1, 1)], rings=rings)
        self.right(self.TEXT, ahead + [end(1, 2), end(2, 3), bell(2, 1)], {"patience": 1}, rings=rings)
        state = (0, (0,) * 8, (0,) * 16, True, None)
        self.last("shut", self.TEXT, [bell(0, 0)], rings=rings, state=state)
        self.right(self.TEXT, [end(0, 0), bell(0, 0)], rings=rings, state=state)

    def test_shut_by_a_shut(self):
        self.last("shut", "shut; open | 0", [end(0, 0), bell(1, 0)], rings=[(1, 0)])
        self.right("shut; open | 0", [end(0, 0), end(1, 1), bell(1, 0)], rings=[(1, 0)])

    def test_order(self):
        self.last("order", self.TEXT, [bell(4, 1)], rings=[(4, 1), (4, 0)])
        self.last("order", self.TEXT, [bell(4, 3)], rings=[(0, 3), (4, 0), (9, 1)])
        self.right(self.TEXT, [bell(4, 1)], rings=[(4, 1), (5, 0)])
        self.right(self.TEXT, [bell(4, 0)], rings=[(4, 1), (4, 0)])
        self.right(self.TEXT, [bell(4, 1)], rings=[(4, 2), (0, 3), (4, 1)])

    def test_order_of_those_that_were_not_taken(self):
        ahead = [bell(0, 0), end(0, 1, spot(1, 5)), end(1, 2)]
        self.right(self.TEXT, ahead + [bell(1, 1)], rings=[(0, 1), (0, 0)])
        self.last("order", self.TEXT, ahead + [bell(1, 1)], rings=[(0, 1), (0, 0), (1, 0)])
        self.right(self.TEXT, ahead + [bell(1, 1)], rings=[(0, 1), (0, 0), (2, 0)])

    def test_rings_in_any_order_one_twice_some_far_behind(self):
        rings = [(FAR, 0), (7, 3), (0, 2), (7, 3), (0, 2), (FAR - 1, 1)]
        diary = [bell(0, 2), end(3, 2), bell(5, 2), end(5, 2), bell(7, 3), end(7, 0)]
        self.right(self.TEXT, diary, {"width": 2}, rings=rings)
        self.right(self.TEXT, diary + [bell(8, 3)], {"width": 2}, rings=rings)
        self.last("stray", self.TEXT, diary + [bell(FAR - 2, 1)], {"width": 2}, rings=rings)
        self.right(self.TEXT, diary + [bell(8, 3), end(8, 0), bell(FAR - 1, 1)], {"width": 2}, rings=rings)
        self.right(self.TEXT, diary + [bell(8, 3), end(8, 0), bell(FAR, 0)], {"width": 2}, rings=rings)
        self.last("order", self.TEXT, diary + [bell(8, 3), end(8, 0), bell(FAR, 1)], {"width": 2}, rings=rings)

    def test_a_bell_at_rest(self):
        self.right("home | 1", [bell(0, 0)], rings=[(0, 0)], state=(1, (0,) * 8, (0,) * 16, False, None))


class PressedEnds(Held):
    ROUND = "put 1 1; go 1 0 | 2"

    def rounds(self, count, first=0):
        """Ends of the round, one a beat."""
        return [end(first + n, n % 2, spot(1, 1) if n % 2 == 0 else None) for n in range(count)]

    def test_patience(self):
        for patience in (0, 1, 2, 5):
            bounds = {"patience": patience}
            self.right(self.ROUND, self.rounds(patience), bounds, rings=[(0, 0)])
            self.last("bell", self.ROUND, self.rounds(patience + 1), bounds, rings=[(0, 0)])
        self.right(self.ROUND, self.rounds(40), {"patience": FAR}, rings=[(0, 0)])

    def test_from_the_ring_on(self):
        for first in (1, 4, 7):
            for patience in (0, 1, 3):
                bounds = {"patience": patience}
                self.right(self.ROUND, self.rounds(first + patience), bounds, rings=[(first, 0)])
                self.last("bell", self.ROUND, self.rounds(first + patience + 1), bounds, rings=[(first, 0)])
        self.right(self.ROUND, self.rounds(20), rings=[(20, 0), (FAR, 0)])

    def test_not_while_it_is_shut(self):
        shut = (0, (0,) * 8, (0,) * 16, True, None)
        self.right(self.ROUND, self.rounds(20), rings=[(0, 0)], state=shut)
        text = "shut; put 1 1; open; put 1 2; put 1 3 | 0"
        diary = [end(0, 0), end(1, 1, spot(1, 1)), end(2, 2), end(3, 3, spot(1, 2)), end(4, 4, spot(1, 3))]
        self.last("bell", text, diary[:1], {"patience": 0}, rings=[(0, 0)])
        self.right(text, diary[:3], {"patience": 0}, rings=[(1, 0)])
        self.last("bell", text, diary[:4], {"patience": 0}, rings=[(1, 0)])
        self.right(text, diary[:4], {"patience": 1}, rings=[(1, 0)])
        self.last("bell", text, diary, {"patience": 1}, rings=[(0, 0)])

    def test_an_end_that_is_not_pressed_brings_the_count_back(self):
        # shut is pressed, what is kept out is not, and the count begins anew behind open
        text = "put 1 1; shut; open; put 1 2; put 1 3; put 1 4 | 0"
        diary = [end(0, 0, spot(1, 1)), end(1, 1), end(2, 2), end(3, 3, spot(1, 2)), end(4, 4, spot(1, 3))]
        self.right(text, diary, {"patience": 2}, rings=[(0, 0)])
        self.last("bell", text, diary + [end(5, 5, spot(1, 4))], {"patience": 2}, rings=[(0, 0)])
        self.last("bell", text, diary[:2], {"patience": 1}, rings=[(0, 0)])

    def test_a_bell_brings_the_count_back(self):
        # behind the bell's way back another bell waits, and the count begins anew
        text = "put 1 1; put 1 2; put 1 3; open | 3"
        diary = [end(0, 0, spot(1, 1)), end(1, 1, spot(1, 2)), bell(2, 0), end(2, 3), bell(3, 0)]
        self.right(text, diary, {"patience": 2}, rings=[(0, 0), (0, 0)])
        text = "put 1 1; put 1 2; open; put 2 1; put 2 2; put 2 3 | 2"
        diary = [
            end(0, 0, spot(1, 1)), end(1, 1, spot(1, 2)), bell(2, 0), end(2, 2), end(3, 3, spot(2, 1)),
            end(4, 4, spot(2, 2)), end(5, 5, spot(2, 3)),
        ]
        self.right(text, diary[:-1], {"patience": 2}, rings=[(0, 0), (0, 0)])
        self.last("bell", text, diary, {"patience": 2}, rings=[(0, 0), (0, 0)])

    def test_another_bell_goes_on_pressing(self):
        text = "put 1 1; put 1 2; put 1 3; put 1 4 | 0 0"
        diary = [end(n, n, spot(1, n + 1)) for n in range(4)]
        self.right(text, diary, {"patience": 3}, rings=[(3, 0), (1, 1)])
        self.last("bell", text, diary, {"patience": 2}, rings=[(3, 0), (1, 1)])

    def test_lates_and_downs_leave_the_count(self):
        text = "lay 0 0 0; mul 1 0 0; put 2 1; put 2 2 | 0"
        diary = [
            end(0, 0, cell(0, 0)), end(1, 1, spot(1)), down(1, 0, 0, 0), late(1, 1, 0), end(2, 2, spot(2, 1)),
            end(3, 3, spot(2, 2)),
        ]
        for patience, told in ((4, None), (3, (5, "bell")), (2, (4, "bell")), (1, (1, "bell")), (0, (0, "bell"))):
            self.hold(text, diary, told, {"patience": patience, "room": 1}, rings=[(0, 0)])

    def test_a_ring_between_ends_of_one_run(self):
        # not pressed up to beat 2, pressed from then on, also by an end of the same beat
        text = "put 1 1; put 1 2; put 1 3; put 1 4 | 0"
        diary = [end(1, 0, spot(1, 1)), end(2, 1, spot(1, 2)), end(2, 2, spot(1, 3)), end(2, 3, spot(1, 4))]
        self.right(text, diary, {"patience": 3, "width": 3}, rings=[(2, 0)])
        self.last("bell", text, diary, {"patience": 2, "width": 3}, rings=[(2, 0)])

    def test_rest_presses_nothing(self):
        self.right("put 1 1 | 0", [end(0, 0, spot(1, 1))], rings=[(1, 0)])


class TwoAtOnce(Held):
    """One event that breaks two rules that stand one behind the other tells the first one."""

    OWING = "mul 1 0 0; sum 2 1 1; home | 0 1"
    FIRST = [end(4, 0, spot(1))]

    def test_of_each_event(self):
        bounds = {"room": 1, "longest": 0}
        # longest is below 0 for no one, so what is below the beat ahead is never overdue by itself
        self.last("beat", self.OWING, self.FIRST + [end(3, 7)], bounds)
        self.last("beat", self.OWING, self.FIRST + [late(3, 7, 7)], bounds)
        self.last("beat", self.OWING, self.FIRST + [down(3, 7, 7, 7)], bounds)
        self.last("beat", self.OWING, self.FIRST + [bell(3, 7)], bounds)
        self.last("overdue", self.OWING, self.FIRST + [end(5, 7)], bounds)
        self.last("overdue", self.OWING, self.FIRST + [late(5, 7, 7)], bounds)
        self.last("overdue", self.OWING, self.FIRST + [late(5, 0, 7)], bounds)
        self.last("overdue", self.OWING, self.FIRST + [down(5, 7, 7, 7)], bounds)
        self.last("overdue", self.OWING, self.FIRST + [bell(5, 7)], bounds)
        self.last("overdue", "mul 1 0 0", self.FIRST + [end(5, 1)], bounds)

    def test_of_ends(self):
        # rest and place, crowd, bell
        self.last("rest", "home | 0", [end(0, 0), end(0, 7)], rings=[(0, 0)], numbers={"patience": 1})
        # place and crowd, bell, ahead, thing
        bounds = {"room": 1, "patience": 1}
        self.last("place", self.OWING, self.FIRST + [end(4, 2, spot(2, 1))], bounds, rings=[(4, 0)])
        self.last("place", "home; home", [end(0, 0), end(0, 0)])
        # crowd and bell
        self.last("crowd", "home; home | 0", [end(0, 0), end(0, 1)], {"patience": 1}, rings=[(0, 0)])
        # bell and ahead
        bounds = {"room": 1, "longest": 1, "patience": 1}
        self.last("bell", self.OWING, self.FIRST + [end(5, 1, spot(2, 0))], bounds, rings=[(4, 0)])
        # ahead and thing, worth, owed
        bounds = {"room": 1, "longest": 1}
        for wrote in (None, spot(3, 0), spot(2, 1), spot(2), cell(2, 0)):
            self.last("ahead", self.OWING, self.FIRST + [end(5, 1, wrote)], bounds)
        # thing and owed, worth, room
        self.last("thing", "put 1 5", [end(0, 0, spot(2))])
        self.last("thing", "put 1 5", [end(0, 0, spot(2, 6))])
        self.last("thing", "mul 1 0 0", [end(0, 0, spot(2))])
        self.last("thing", "lay 1 0 0; lay 1 0 0", [end(0, 0, cell(0, 0)), end(1, 1, cell(1, 5))])
        # owed and room
        self.last("owed", "put 1 5", [end(0, 0, spot(1))])
        # worth and room
        self.last("worth", "lay 1 0 0; lay 1 0 0", [end(0, 0, cell(0, 0)), end(1, 1, cell(0, 5))])
        self.last("worth", "mul 1 0 0", [end(0, 0, spot(1, 1))])

    def test_of_downs(self):
        laying = [end(0, 0, cell(0, 0)), end(1, 1, cell(1, 0))]
        bounds = {"queue": 2}
        self.last("stray", "lay 1 0 0; lay 1 0 1", laying + [down(1, 1, 2, 7)], bounds)
        self.last("thing", "lay 1 0 0; lay 1 0 1", laying + [down(1, 0, 1, 7)], bounds)

    def test_of_bells(self):
        shut = (0, (0,) * 8, (0,) * 16, True, None)
        self.last("stray", self.OWING, [bell(0, 1)], rings=[(0, 0), (1, 1)])
        self.last("stray", self.OWING, [bell(0, 1)], rings=[(0, 0), (1, 1)], state=shut)
        self.last("shut", self.OWING, [bell(0, 1)], rings=[(0, 0), (0, 1)], state=shut)


if __name__ == "__main__":
    unittest.main()
