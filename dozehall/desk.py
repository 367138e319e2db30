"""A desk that drives a hall with keys by rows of text."""

from dozehall.errors import DozeError, NoBack, NoRow, Stopped
from dozehall.hall import guests_text
from dozehall.keys import KeyHall
from dozehall.kinds import ALL, EVERY
from dozehall.texts import parts_or_none

# What stands behind a row's first word, and the words that may stand behind that, with a number each.
DESK_FORMS = {
    "put": (("room", "number"), ()),
    "nudge": (("guest",), ()),
    "rank": (("guest", "number"), ()),
    "sleep": (("guest", "room", "number"), ("until", "mask")),
    "take": (("guest", "key"), ("until",)),
    "wake": (("room",), ("most", "mask")),
    "tick": (("number",), ()),
    "move": (("room", "room"), ("still", "wakes", "moves")),
    "give": (("guest", "key"), ()),
    "holder": (("key",), ()),
    "number": (("room",), ()),
    "standing": (("guest",), ()),
    "line": (("room",), ()),
    "waits": (("key",), ()),
    "ending": (("guest",), ()),
}


def say_put(hall, parts, more):
    """The answer to a `put` row."""
    hall.put(parts[0], parts[1])
    return "ok"


def say_nudge(hall, parts, more):
    """The answer to a `nudge` row."""
    hall.nudge(parts[0])
    return "ok"


def say_rank(hall, parts, more):
    """The answer to a `rank` row."""
    hall.rank(parts[0], parts[1])
    return "ok"


def say_sleep(hall, parts, more):
    """The answer to a `sleep` row."""
    return hall.sleep(parts[0], parts[1], parts[2], until=more.get("until"), mask=more.get("mask", ALL))


def say_take(hall, parts, more):
    """The answer to a `take` row."""
    return hall.take(parts[0], parts[1], until=more.get("until"))


def say_wake(hall, parts, more):
    """The answer to a `wake` row."""
    return guests_text(hall.wake(parts[0], most=more.get("most", 1), mask=more.get("mask", ALL)))


def say_tick(hall, parts, more):
    """The answer to a `tick` row."""
    return guests_text(hall.tick(parts[0]))


def say_move(hall, parts, more):
    """The answer to a `move` row."""
    wakes, moves = more.get("wakes", 1), more.get("moves", EVERY)
    told = hall.move(parts[0], parts[1], still=more.get("still"), wakes=wakes, moves=moves)
    if told is None:
        return "changed"
    return f"{guests_text(told[0])} / {guests_text(told[1])}"


def say_give(hall, parts, more):
    """The answer to a `give` row."""
    return guest_text(hall.give(parts[0], parts[1]))


def say_holder(hall, parts, more):
    """The answer to a `holder` row."""
    return guest_text(hall.holder(parts[0]))


def say_number(hall, parts, more):
    """The answer to a `number` row."""
    return str(hall.number(parts[0]))


def say_standing(hall, parts, more):
    """The answer to a `standing` row."""
    return str(hall.standing(parts[0]))


def say_line(hall, parts, more):
    """The answer to a `line` row."""
    return guests_text(hall.line(parts[0]))


def say_waits(hall, parts, more):
    """The answer to a `waits` row."""
    return guests_text(hall.waits(parts[0]))


def say_ending(hall, parts, more):
    """The answer to an `ending` row."""
    return hall.ending(parts[0])


SAYS = {
    "put": say_put,
    "nudge": say_nudge,
    "rank": say_rank,
    "sleep": say_sleep,
    "take": say_take,
    "wake": say_wake,
    "tick": say_tick,
    "move": say_move,
    "give": say_give,
    "holder": say_holder,
    "number": say_number,
    "standing": say_standing,
    "line": say_line,
    "waits": say_waits,
    "ending": say_ending,
}


class Desk:
    """A hall with keys, and the halls as they were ahead of each row or batch that can be taken back."""

    def __init__(self, rooms, *, keys=()):
        self.hall = KeyHall(rooms, keys)
        self.pasts = []

    def say(self, text):
        """The answer to a row."""
        ahead = self.hall.twin()
        answer = answered(self.hall, text)
        self.keep(ahead)
        return answer

    def batch(self, rows):
        """The answers to rows that are done whole or not at all."""
        ahead = self.hall.twin()
        answers = []
        for place, text in enumerate(rows):
            answer = answer_or_none(self.hall, text)
            if answer is None:
                self.hall = ahead
                raise Stopped(place)
            answers.append(answer)
        self.keep(ahead)
        return answers

    def back(self):
        """Takes the last row or batch back that did something."""
        if not self.pasts:
            raise NoBack(0)
        self.hall = self.pasts.pop()

    def log(self):
        """The hall's log."""
        return self.hall.log()

    def keep(self, ahead):
        """Keeps the hall as it was ahead of a row or a batch, if that put anything into the log."""
        if len(ahead.log()) < len(self.hall.log()):
            self.pasts.append(ahead)


def answered(hall, text):
    """The hall's answer to a row; what is refused does nothing."""
    word, *words = text.split(" ")
    if word not in DESK_FORMS:
        raise NoRow(text)
    kinds, names = DESK_FORMS[word]
    parts = parts_or_none(kinds, words[:len(kinds)])
    more = more_or_none(names, words[len(kinds):])
    if parts is None or more is None:
        raise NoRow(text)
    answer = SAYS[word]
    return answer(hall, parts, more)


def answer_or_none(hall, text):
    """The hall's answer to a row, or None where it is refused."""
    try:
        return answered(hall, text)
    except DozeError:
        return None


def more_or_none(names, words):
    """The numbers behind those of the names that the words tell, or None where the words are not so written."""
    told = words[::2]
    # So they stand in their order, and none twice.
    if told != [name for name in names if name in told]:
        return None
    numbers = parts_or_none(["number" for name in told], words[1::2])
    if numbers is None:
        return None
    return {name: number for name, number in zip(told, numbers)}


def guest_text(guest):
    """A guest, or `nobody`."""
    return guests_text([] if guest is None else [guest])
