"""Counts that a web's row tells: settings, settings with one spring, pairs, sets of ties."""

from dyeweb.rows import row, worth


def settings(points, ties):
    return abs(worth(row(points, ties), -1))


def from_spring(points, ties, point):
    numbers = row(points, ties)
    # A point that the web does not have is no setting's spring (and a web without points has no r1).
    if point < 0 or point >= points:
        return 0
    return abs(numbers[1])


def pairs(points, ties, q):
    return abs(worth(row(points, ties), -q))


def unbroken(points, ties, many):
    numbers = row(points, ties)
    # A place outside the row stands for no set; one below nought would be taken from the row's end.
    if many < 0 or many > points:
        return 0
    return abs(numbers[points - many])
