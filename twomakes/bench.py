"""The bench: a mill and two long makes of it, told and asked by rows of words."""

from twomakes.errors import NoBell, NoStep
from twomakes.flows import walk_of
from twomakes.holder import parting
from twomakes.holds import least_holds
from twomakes.lays import lay_of, terms_of
from twomakes.like import apart, like_bells, settled
from twomakes.long import led_run, rung_run
from twomakes.plain import run, start
from twomakes.rules import is_bell
from twomakes.says import read_said, show_bells, show_cause, show_ends, show_holds, show_seen
from twomakes.suspects import first_seen, suspects
from twomakes.texts import read_mill, show_mill

MOST_BEATS = 100
MOST_BEATS_OF_WALKS = 25


def ask_beats(beats, most):
    if beats > most:
        raise NoStep("so many beats are not gone through")


class Bench:
    def __init__(self):
        self.mill = ((("open",),), ())
        self.spots = []
        self.cells = []
        self.lays = {"one": (1,) * 8, "two": (1,) * 8}
        self.forget()

    def forget(self):
        self.rings = []
        self.slips = {"one": [], "two": []}

    def say(self, row):
        said = read_said(row)
        word = said[0]
        parts = said[1]
        if word in ("ends", "bells", "hold", "side", "least", "seen"):
            return self.answer(word, parts)
        if word == "text":
            return show_mill(self.mill)
        self.heed(word, parts)
        return "ok"

    def heed(self, word, parts):
        if word == "mill":
            self.mill = read_mill(parts[0])
            self.forget()
        elif word == "spots":
            start(parts, [])
            self.spots = parts
        elif word == "cells":
            start([], parts)
            self.cells = parts
        elif word == "lay":
            self.lays[parts[0]] = lay_of(parts[1:])
        elif word == "ring":
            self.ring(parts[0], parts[1])
        elif word == "slip":
            self.slips[parts[0]].append((parts[1], parts[2]))
        else:
            self.forget()

    def ring(self, beat, k):
        if not is_bell(self.mill, k):
            raise NoBell("the mill has no such bell")
        self.rings.append((beat, k))

    def answer(self, word, parts):
        beats = parts[-1]
        ask_beats(beats, MOST_BEATS_OF_WALKS if word in ("least", "seen") else MOST_BEATS)
        if word == "side":
            return self.answer_side(beats)
        if word == "least":
            return show_holds(least_holds(self.plain_walk(self.rung_diary("one", beats))))
        if word == "seen":
            return self.answer_seen(self.rung_diary("one", beats))
        diary = self.rung_diary(parts[0], beats)
        if word == "ends":
            return show_ends(settled(diary))
        if word == "bells":
            return show_bells(like_bells(diary))
        return self.answer_hold(parts[0], diary)

    def begin(self):
        return start(self.spots, self.cells)

    def rung_diary(self, make, beats):
        return rung_run(self.mill, self.begin(), self.lays[make], beats, self.rings, self.slips[make])[1]

    def plain_walk(self, diary):
        return walk_of(self.mill, self.begin(), len(settled(diary)), like_bells(diary))

    def answer_hold(self, make, diary):
        terms = terms_of(self.lays[make])
        return show_cause(parting(self.mill, self.begin(), self.rings, terms, diary), "right")

    def answer_side(self, beats):
        diary = self.rung_diary("one", beats)
        led = led_run(self.mill, self.begin(), self.lays["two"], beats, like_bells(diary), self.slips["two"])
        return show_cause(apart(diary, led[1]), "alike")

    def answer_seen(self, diary):
        walk = self.plain_walk(diary)
        ends = settled(diary)
        plain = run(self.mill, self.begin(), len(ends), like_bells(diary))[1]
        seen = first_seen(self.begin(), plain, ends, least_holds(walk))
        if seen is None:
            return "alike"
        return show_seen(seen[0], seen[1], suspects(walk, seen))
