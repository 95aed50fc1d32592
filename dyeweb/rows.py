"""Rows: the row of a web, whose worth at each number of dyes is how many dyeings there are."""

from dyeweb.webs import merged_ties, refuse_no_web


def row(points, ties):
    refuse_no_web(points, ties)
    return row_of_web(points, ties)


def row_of_web(points, ties):
    if len(ties) == 0:
        return [0] * points + [1]
    # Lists of dyes that suit the other ties are dyeings, but for those alike at this tie's ends:
    # these are the dyeings of the merged web.
    last = ties[-1]
    free = row_of_web(points, ties[:-1])
    alike = row_of_web(points - 1, merged_ties(ties, last)) + [0]
    return [x - y for x, y in zip(free, alike)]


def worth(numbers, q):
    total = 0
    for number in reversed(numbers):
        total = total * q + number
    return total
