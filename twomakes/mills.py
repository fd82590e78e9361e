"""Mills: the rows they are made of, and which spots a row reads and writes."""

from twomakes.errors import NoMill

MOST_ROWS = 40
MOST_BELLS = 4
SPOTS = 8
CELLS = 16
WORTHS = 4294967296

# A part's name tells both its bound and whether its spot is read or written,
# so that this one table answers all that is asked of a row.
PARTS = {
    "put": ("d", "worth"),
    "sum": ("d", "a", "b"),
    "mul": ("d", "a", "b"),
    "less": ("d", "a", "b"),
    "take": ("d", "a", "n"),
    "lay": ("b", "a", "n"),
    "go": ("a", "p"),
    "shut": (),
    "open": (),
    "home": (),
}

# p is not here: its bound is the number of the mill's rows.
GREATEST = {"d": 7, "a": 7, "b": 7, "n": 15, "worth": 4294967295}

SLOW_WORDS = ("mul", "take")


def wrapped(number):
    return number % WORTHS


def cell_at(worth, n):
    return (worth + n) % CELLS


def spots_read(row):
    spots = []
    for part, number in zip(PARTS[row[0]], row[1:]):
        if part in ("a", "b") and number not in spots:
            spots.append(number)
    return spots


def spot_written(row):
    for part, number in zip(PARTS[row[0]], row[1:]):
        if part == "d":
            return number
    return None


def is_slow(row):
    return row[0] in SLOW_WORDS


def fits(part, number, count):
    greatest = count if part == "p" else GREATEST[part]
    return 0 <= number <= greatest


def is_row(row, count):
    if row[0] not in PARTS:
        return False
    parts = PARTS[row[0]]
    if len(row) != len(parts) + 1:
        return False
    return all([fits(part, number, count) for part, number in zip(parts, row[1:])])


def mill_of(rows, bells):
    count = len(rows)
    if not 1 <= count <= MOST_ROWS:
        raise NoMill("a mill has one to forty rows")
    if len(bells) > MOST_BELLS:
        raise NoMill("a mill has at most four bells")
    for row in rows:
        if not is_row(row, count):
            raise NoMill("one of the rows is none")
    for place in bells:
        if not fits("p", place, count):
            raise NoMill("a bell leads to no place of the mill")
    return (tuple(rows), tuple(bells))
