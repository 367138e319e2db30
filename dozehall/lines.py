"""Lines of guests that are ordered by ranks which never change."""


def join_line(line, guest, ranks):
    """The guest comes to stand behind the last one in the line whose rank is no less than its own."""
    at = len(line)
    while at > 0 and ranks[line[at - 1]] < ranks[guest]:
        at -= 1
    line.insert(at, guest)
