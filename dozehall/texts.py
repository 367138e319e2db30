"""Rows and plans as texts."""

from dozehall.errors import NoRow
from dozehall.names import is_name
from dozehall.rows import FORMS

FIGURES = "0123456789"
MOST_FIGURES = 60
LAST_GUEST = 999999


def row_text(row):
    """A row of a plan as a text."""
    return " ".join([str(part) for part in row])


def plan_text(plan):
    """A plan as a text, a line for each row."""
    return "\n".join([row_text(row) for row in plan])


def read_row(text):
    """The row that is written so."""
    row = row_or_none(text)
    if row is None:
        raise NoRow(text)
    return row


def read_plan(text):
    """The plan that is written so."""
    # Without this the text without signs would be one line, and that no row.
    lines = text.split("\n") if text else []
    plan = [row_or_none(line) for line in lines]
    if None in plan:
        raise NoRow(plan.index(None))
    return plan


def row_or_none(text):
    """The row that is written so, or None where the text is none."""
    words = text.split(" ")
    if words[0] not in FORMS:
        return None
    parts = parts_or_none(FORMS[words[0]], words[1:])
    if parts is None:
        return None
    return (words[0], *parts)


def parts_or_none(kinds, words):
    """What the words tell as parts of these kinds, or None where they are no such parts."""
    if len(words) != len(kinds):
        return None
    parts = [part_or_none(kind, word) for kind, word in zip(kinds, words)]
    return None if None in parts else parts


def part_or_none(kind, word):
    """What a word tells as a part of that kind: a room or key, a guest, or some other number; else None."""
    if kind in ("room", "key"):
        return word if is_name(word) else None
    if not is_number(word):
        return None
    number = int(word)
    if kind == "guest" and not 0 <= number <= LAST_GUEST:
        return None
    return number


def is_number(word):
    """Whether the word is a number, written in the one way in which it is."""
    figures = word.removeprefix("-")
    if not 1 <= len(figures) <= MOST_FIGURES or not all(figure in FIGURES for figure in figures):
        return False
    return word == "0" or figures[0] != "0"
