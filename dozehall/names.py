"""Names of rooms, keys, locks and the like."""

from dozehall.errors import TwoNames


def check_once(names):
    """Refuses the first name that was told ahead already."""
    known = {}
    for name in names:
        if name in known:
            raise TwoNames(name)
        known[name] = True
