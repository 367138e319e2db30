"""Worlds: guests that go through plans of rows, and the states that they come to."""

from dozehall.errors import BadPlan, NoMove
from dozehall.lines import join_line
from dozehall.rows import changed_place, counted, is_bed, late_place, row_fits, woken_place


class Draft:
    """A state in lists, while a move is done in it."""

    def __init__(self, state):
        numbers, places, owns, lines = state
        self.numbers = list(numbers)
        self.places = list(places)
        self.owns = list(owns)
        self.lines = [list(line) for line in lines]

    def leave(self, guest):
        """The guest leaves its line, wherever it lies."""
        self.lines = [[other for other in line if other != guest] for line in self.lines]

    def frozen(self):
        """The state as a tuple."""
        lines = tuple([tuple(line) for line in self.lines])
        return tuple(self.numbers), tuple(self.places), tuple(self.owns), lines


class World:
    """Rooms, the plans of guests, and how these may be woven.

    A room's seat is its place among the sorted names.
    """

    def __init__(self, rooms, plans, *, marks=None, ranks=None, nudges=False):
        names = sorted(rooms)
        self.seats = {name: seat for seat, name in enumerate(names)}
        self.numbers = tuple([rooms[name] for name in names])
        self.plans = [list(plan) for plan in plans]
        self.marks = [] if marks is None else [list(places) for places in marks]
        self.ranks = [0 for plan in plans] if ranks is None else list(ranks)
        self.nudges = nudges
        self.check_plans()

    def start(self):
        """The state at the start."""
        noughts = tuple([0 for plan in self.plans])
        return self.numbers, noughts, noughts, tuple([() for number in self.numbers])

    def is_state(self, thing):
        """Whether the thing, a tuple of a state's form, is a state of this world."""
        numbers, places, owns, lines = thing
        if len(numbers) != len(self.numbers) or len(lines) != len(self.numbers):
            return False
        if len(places) != len(self.plans) or len(owns) != len(self.plans):
            return False
        if not all(0 <= place <= len(plan) for place, plan in zip(places, self.plans)):
            return False
        lying = [guest for line in lines for guest in line]
        if len(set(lying)) != len(lying) or not all(self.may_lie(guest, places) for guest in lying):
            return False
        return all(self.is_ordered(line) for line in lines)

    def can(self, state):
        """All moves that are possible: steps, then late ends, then nudges, each by rising guests."""
        nudges = []
        if self.nudges:
            nudges = [("nudge", guest) for guest in sleepers(state)]
        return self.own_moves(state) + nudges

    def after(self, state, move):
        """The state behind that move."""
        if move not in self.can(state):
            raise NoMove(move)
        return self.done(state, move)

    def clash(self, state):
        """Whether the marks of two guests have a name in common."""
        names = []
        for marks, place in zip(self.marks, state[1]):
            # What one guest's mark tells twice counts once: only two guests clash.
            names.extend(sorted(set(marks[place])))
        return len(set(names)) != len(names)

    def ended(self, state):
        """Whether all guests are at their ends."""
        return all(place == len(plan) for place, plan in zip(state[1], self.plans))

    def stuck(self, state):
        """Whether it is not ended, nobody's step is possible, and nobody can be late."""
        return not self.ended(state) and not self.own_moves(state)

    def check_plans(self):
        """Refuses the world where a row does not fit."""
        for guest, plan in enumerate(self.plans):
            for place, row in enumerate(plan):
                if not row_fits(row, self.seats, len(plan)):
                    raise BadPlan((guest, place))

    def may_lie(self, guest, places):
        """Whether that is a guest, and stands at a row at which one may sleep."""
        if not 0 <= guest < len(self.plans):
            return False
        plan = self.plans[guest]
        return places[guest] < len(plan) and is_bed(plan[places[guest]])

    def is_ordered(self, line):
        """Whether no rank in the line is above the rank of one ahead of it."""
        return all(self.ranks[one] >= self.ranks[other] for one, other in zip(line, line[1:]))

    def row_at(self, state, guest):
        """The row at which the guest, not at its end, stands."""
        return self.plans[guest][state[1][guest]]

    def steps(self, state):
        """The steps that are possible, by rising guests."""
        lying = sleepers(state)
        ends = [len(plan) for plan in self.plans]
        return [("step", guest) for guest, end in enumerate(ends) if guest not in lying and state[1][guest] < end]

    def own_moves(self, state):
        """The steps and late ends that are possible; nudges are not the guests' own."""
        late = [guest for guest in sleepers(state) if late_place(self.row_at(state, guest)) != -1]
        return self.steps(state) + [("late", guest) for guest in late]

    def done(self, state, move):
        """The state behind a move that is possible."""
        word, guest = move
        row = self.row_at(state, guest)
        draft = Draft(state)
        if word == "step":
            self.do_row(draft, guest, row)
        else:
            draft.leave(guest)
            draft.places[guest] = late_place(row) if word == "late" else woken_place(row)
        return draft.frozen()

    def do_row(self, draft, guest, row):
        """The guest does its row."""
        seat = self.seats[row[1]]
        on = draft.places[guest] + 1
        if is_bed(row):
            self.lie_down_or_pass(draft, guest, row)
        elif row[0] == "load":
            draft.owns[guest] = draft.numbers[seat]
            draft.places[guest] = on
        elif row[0] == "wake":
            self.rouse(draft, seat, row[2])
            draft.places[guest] = on
        elif row[0] == "move":
            self.rouse(draft, seat, row[3])
            self.shift(draft, seat, self.seats[row[2]], row[4])
            draft.places[guest] = on
        else:
            draft.numbers[seat], draft.places[guest] = counted(row, draft.numbers[seat], on)

    def lie_down_or_pass(self, draft, guest, row):
        """The guest does a wait or still row."""
        seat = self.seats[row[1]]
        still = row[2] if row[0] == "wait" else draft.owns[guest]
        if draft.numbers[seat] == still:
            join_line(draft.lines[seat], guest, self.ranks)
        else:
            draft.places[guest] = changed_place(row)

    def rouse(self, draft, seat, many):
        """The first so many guests of the line are woken."""
        line = draft.lines[seat]
        draft.lines[seat] = line[many:]
        for guest in line[:many]:
            draft.places[guest] = woken_place(self.plans[guest][draft.places[guest]])

    def shift(self, draft, seat, other, many):
        """The first so many guests of the line are moved, one by one, to the other line."""
        line = draft.lines[seat]
        draft.lines[seat] = line[many:]
        for guest in line[:many]:
            join_line(draft.lines[other], guest, self.ranks)


def sleepers(state):
    """The guests that sleep in a state, rising."""
    return sorted([guest for line in state[3] for guest in line])
