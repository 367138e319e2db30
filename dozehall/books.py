"""Logs as papers: where one is first at fault, and the sleeps that it tells of."""

from dozehall.errors import DozeError
from dozehall.keys import KeyHall


def put_again(hall, entry):
    """The deed of a `put` entry."""
    hall.put(entry[1], entry[2])


def sleep_again(hall, entry):
    """The deed of a `sleep` entry."""
    hall.sleep(entry[1], entry[2], entry[3], until=entry[4], mask=entry[5])


def wake_again(hall, entry):
    """The deed of a `wake` entry."""
    hall.wake(entry[1], most=entry[2], mask=entry[3])


def move_again(hall, entry):
    """The deed of a `move` entry."""
    hall.move(entry[1], entry[2], still=entry[3], wakes=entry[4], moves=entry[5])


def tick_again(hall, entry):
    """The deed of a `tick` entry."""
    hall.tick(entry[1])


def nudge_again(hall, entry):
    """The deed of a `nudge` entry."""
    hall.nudge(entry[1])


def rank_again(hall, entry):
    """The deed of a `rank` entry."""
    hall.rank(entry[1], entry[2])


def take_again(hall, entry):
    """The deed of a `take` entry."""
    hall.take(entry[1], entry[2], until=entry[3])


def give_again(hall, entry):
    """The deed of a `give` entry."""
    hall.give(entry[1], entry[2])


DEEDS = {
    "put": put_again,
    "sleep": sleep_again,
    "wake": wake_again,
    "move": move_again,
    "tick": tick_again,
    "nudge": nudge_again,
    "rank": rank_again,
    "take": take_again,
    "give": give_again,
}

# How a sleep ended that an entry with such a first text ended.
HOWS = {"wake": "woken", "move": "woken", "tick": "late", "nudge": "nudged", "give": "held"}


def first_fault(rooms, log, *, keys=()):
    """The place of the first entry that such a hall would not have told so, or None."""
    # A hall without keys refuses every take and give, which is what a log of such a hall asks for.
    hall = KeyHall(rooms, keys)
    for place, entry in enumerate(log):
        if not is_told(hall, entry):
            return place
    return None


def is_told(hall, entry):
    """Does the entry's deed in the hall; whether the hall tells it by that very entry."""
    if entry[0] not in DEEDS:
        return False
    deed = DEEDS[entry[0]]
    try:
        deed(hall, entry)
    except DozeError:
        return False
    return hall.log()[-1] == entry


class Slumber:
    """One sleep, as far as a log was read."""

    def __init__(self, guest, begun):
        self.guest = guest
        self.begun = begun
        self.trail = []
        self.closed = None
        self.how = "asleep"

    def lead(self, place, room):
        """The entry at that place moved the guest to that room's line."""
        self.trail.append((place, room))

    def close(self, place, how):
        """The entry at that place ended the sleep."""
        self.closed = place
        self.how = how

    def told(self):
        """The sleep as a tuple."""
        return self.guest, self.begun, tuple(self.trail), self.closed, self.how


def sleeps(log):
    """The sleeps of a log without a fault, in its order."""
    slumbers = []
    last = {}
    for place, entry in enumerate(log):
        for guest in moved_by(entry):
            last[guest].lead(place, entry[2])
        for guest in ended_by(entry):
            last[guest].close(place, HOWS[entry[0]])
        if entry[-1] == "asleep":
            slumber = Slumber(entry[1], place)
            slumbers.append(slumber)
            last[slumber.guest] = slumber
    return [slumber.told() for slumber in slumbers]


def ended_by(entry):
    """The guests that sleep no more behind that entry."""
    word = entry[0]
    if word in ("wake", "tick"):
        return entry[-1]
    if word == "move" and entry[-1] is not None:
        return entry[-1][0]
    if word == "nudge":
        return (entry[1],)
    if word == "give" and entry[-1] is not None:
        return (entry[-1],)
    return ()


def moved_by(entry):
    """The guests that lie in another line behind that entry."""
    if entry[0] == "move" and entry[-1] is not None:
        return entry[-1][1]
    return ()
