"""The one writing of a mill: told, and read back."""

from twomakes.errors import NoMill, NoText
from twomakes.mills import mill_of

FIGURES = "0123456789"

# No number of a mill has more figures than the greatest worth. Longer ones are
# refused unread, since Python's own int refuses very long ones in its own way.
MOST_FIGURES = 10


def show_parts(parts):
    return " ".join([str(part) for part in parts])


def show_mill(mill):
    rows = "; ".join([show_parts(row) for row in mill[0]])
    if len(mill[1]) == 0:
        return rows
    return rows + " | " + show_parts(mill[1])


def is_number(word):
    if not 1 <= len(word) <= MOST_FIGURES:
        return False
    if word[0] == "0" and len(word) > 1:
        return False
    return all([sign in FIGURES for sign in word])


def read_numbers(words):
    for word in words:
        if not is_number(word):
            raise NoText("a number is not written as one")
    return [int(word) for word in words]


def read_row(text):
    words = text.split(" ")
    return tuple(words[:1] + read_numbers(words[1:]))


def read_mill(text):
    halves = text.split(" | ")
    if len(halves) > 2:
        raise NoText("a mill has one stroke at most")
    rows = [read_row(piece) for piece in halves[0].split("; ")]
    bells = read_numbers(halves[1].split(" ")) if len(halves) == 2 else []
    try:
        return mill_of(rows, bells)
    except NoMill:
        raise NoText("what is written is no mill") from None
