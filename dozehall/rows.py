"""The rows of plans: what stands in each of them, and which fit a plan."""

# What stands behind the first text of a row. A `late` place may also be -1.
FORMS = {
    "set": ("room", "number"),
    "add": ("room", "number", "number", "place"),
    "cas": ("room", "number", "number", "place"),
    "swap": ("room", "number", "number", "place"),
    "take": ("room", "place"),
    "if": ("room", "number", "place"),
    "load": ("room",),
    "wait": ("room", "number", "place", "place", "late"),
    "still": ("room", "place", "place", "late"),
    "wake": ("room", "count"),
    "move": ("room", "room", "count", "count"),
}


def row_fits(row, rooms, end):
    """Whether a row may stand in a plan with that end, in a world with these rooms."""
    if row[0] == "move" and row[1] == row[2]:
        return False
    return all(part_fits(kind, part, rooms, end) for kind, part in zip(FORMS[row[0]], row[1:]))


def part_fits(kind, part, rooms, end):
    """Whether one part of a row, of that kind, fits."""
    if kind == "room":
        return part in rooms
    if kind == "place":
        return 0 <= part <= end
    if kind == "late":
        return -1 <= part <= end
    if kind == "count":
        return part >= 0
    return True


def is_bed(row):
    """Whether a guest may sleep at that row."""
    return row[0] in ("wait", "still")


def changed_place(row):
    """Where a wait or still row leads a guest that does not lie down."""
    return row[-3]


def woken_place(row):
    """Where a guest comes to that was woken or nudged at a wait or still row."""
    return row[-2]


def late_place(row):
    """Where a guest comes to that was late at a wait or still row; -1 where it never is."""
    return row[-1]


def counted(row, number, on):
    """What a row that looks at no line makes of its room's number, and where it leads; `on` is the next place."""
    word = row[0]
    if word == "set":
        return row[2], on
    if word == "add":
        return number + row[2], (row[4] if number + row[2] == row[3] else on)
    if word == "cas":
        return (row[3], row[4]) if number == row[2] else (number, on)
    if word == "swap":
        return row[2], (row[4] if number == row[3] else on)
    if word == "take":
        return (number - 1, row[2]) if number > 0 else (number, on)
    # All that is left is an `if` row.
    return number, (on if number == row[2] else row[3])
