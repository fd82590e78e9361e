"""What a bench is told and tells: rows read word by word, and answers written."""

from twomakes.errors import NoRow
from twomakes.texts import is_number

# The words behind a row's first one. mill is not here: what stands behind it is no row of words.
FORMS = {
    "lay": ("MAKE", "N", "N", "N", "N", "N", "N", "N", "N"),
    "ring": ("N", "N"),
    "slip": ("MAKE", "N", "A"),
    "clear": (),
    "text": (),
    "ends": ("MAKE", "N"),
    "bells": ("MAKE", "N"),
    "hold": ("MAKE", "N"),
    "side": ("N",),
    "least": ("N",),
    "seen": ("N",),
}
LISTS = ("spots", "cells")
MAKES = ("one", "two")
MILL = "mill "


def form_of(words):
    if words[0] in LISTS:
        return ("N",) * (len(words) - 1)
    if words[0] not in FORMS:
        raise NoRow("a row begins with no such word")
    return FORMS[words[0]]


def is_signed_number(word):
    if word.startswith("-"):
        return is_number(word[1:]) and word != "-0"
    return is_number(word)


def fits_part(part, word):
    if part == "MAKE":
        return word in MAKES
    if part == "A":
        return is_signed_number(word)
    return is_number(word)


def part_of(part, word):
    if not fits_part(part, word):
        raise NoRow("a word of the row is out of its place")
    return word if part == "MAKE" else int(word)


# A tuple of the first word and the list of what stands behind it, numbers as numbers.
def read_said(row):
    if row.startswith(MILL):
        return ("mill", [row[len(MILL):]])
    words = row.split(" ")
    form = form_of(words)
    if len(words) != len(form) + 1:
        raise NoRow("a row has too many or too few words")
    return (words[0], [part_of(part, word) for part, word in zip(form, words[1:])])


def show_thing(thing):
    if thing[0] == "next":
        return "next"
    return thing[0][:1] + str(thing[1])


def show_end(end):
    place = str(end[0])
    wrote = end[1]
    if wrote is None:
        return place
    worth = "owed" if wrote[2] is None else str(wrote[2])
    return "/".join([place, show_thing(wrote), worth])


# An answer is never the empty text: a word stands where the words would stand that are not there.
def show_words(words):
    return " ".join(words) if len(words) > 0 else "none"


def show_ends(ends):
    return show_words([show_end(end) for end in ends])


def show_bells(bells):
    return show_words([f"{after}:{k}" for after, k in bells])


def show_holds(holds):
    return show_words([str(time) + "/" + show_thing(thing) for time, thing in holds])


# Where nothing is told that is wrong, the word handed in with it stands.
def show_cause(told, well):
    return well if told is None else str(told[0]) + " " + told[1]


def show_seen(time, things, steps):
    words = [str(time)] + [show_thing(thing) for thing in things]
    return " ".join(words + [":", show_words([str(i) for i in steps])])
