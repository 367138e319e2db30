"""Names of rooms, keys, locks and the like."""

from dozehall.errors import TwoNames

LETTERS = "abcdefghijklmnopqrstuvwxyz"
LONGEST = 8


def is_name(text):
    """Whether the text is a name."""
    return 1 <= len(text) <= LONGEST and all(letter in LETTERS for letter in text)


def check_once(names):
    """Refuses the first name that was told ahead already."""
    known = {}
    for name in names:
        if name in known:
            raise TwoNames(name)
        known[name] = True
