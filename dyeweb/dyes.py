"""Dyes: which lists are dyeings of a web, the fewest dyes that it needs, its least dyeing."""

from dyeweb.webs import refuse_no_web


def is_dyeing(points, ties, dyes, many):
    refuse_no_web(points, ties)
    return len(dyes) == points and dyes_lie_below(dyes, many) and not ends_alike(ties, dyes)


def dyes_lie_below(dyes, many):
    return all([0 <= dye and dye < many for dye in dyes])


def ends_alike(ties, dyes):
    return any([dyes[a] == dyes[b] for a, b in ties])


def fewest(points, ties):
    many = 0
    # This ends: with as many dyes as points each point can have a dye of its own.
    while least(points, ties, many) is None:
        many = many + 1
    return many


def least(points, ties, many):
    refuse_no_web(points, ties)
    return least_beyond([], points, ties, many)


def least_beyond(begun, points, ties, many):
    if len(begun) == points:
        return begun
    # The lesser dyes are tried first at each point, so the first dyeing that is found is the least one.
    for dye in range(many):
        longer = begun + [dye]
        if last_is_unlike(ties, longer):
            found = least_beyond(longer, points, ties, many)
            if found is not None:
                return found
    return None


def last_is_unlike(ties, begun):
    # Only ties down to lesser points matter here: the greater points are not dyed yet.
    last = len(begun) - 1
    return all([begun[a] != begun[last] for a, b in ties if b == last])
