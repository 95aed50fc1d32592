"""Notes: a web written as a text, and read from one."""

from dyeweb.errors import NoNote
from dyeweb.webs import is_web, refuse_no_web

FIGURES = "0123456789"


def shown(points, ties):
    refuse_no_web(points, ties)
    return written(points, ties)


def written(points, ties):
    return str(points) + ":" + "".join([" " + str(a) + "-" + str(b) for a, b in ties])


def read(text):
    numbers = [int(sign) for sign in text if sign in FIGURES]
    # One number for the points and two for each tie.
    if len(numbers) % 2 == 0:
        raise NoNote("this text writes no web")
    points = numbers[0]
    ties = [(numbers[k], numbers[k + 1]) for k in range(1, len(numbers), 2)]
    # The signs between the figures were passed over: they are right if the web is written by this very text.
    if not is_web(points, ties) or written(points, ties) != text:
        raise NoNote("this text writes no web")
    return (points, ties)
