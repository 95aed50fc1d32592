"""Webs, lists that are no web's, and dyes and arrows gone through by hand, for the tests."""

from itertools import combinations, product


def all_webs(points):
    pairs = list(combinations(range(points), 2))
    webs = []
    for many in range(min(len(pairs), 12) + 1):
        webs.extend((points, list(ties)) for ties in combinations(pairs, many))
    return webs


def webs_up_to(most):
    return [web for points in range(most + 1) for web in all_webs(points)]


# Each has 12 ties on 7 points, or comes near to it.
GREAT_WEBS = [
    (7, [(a, b) for a in range(3) for b in range(3, 7)]),
    (7, list(combinations(range(5), 2)) + [(4, 5), (5, 6)]),
    (7, [(0, 6)] + [(k, k + 1) for k in range(6)] + [(k, k + 2) for k in range(5)]),
    (7, [(k, k + 1) for k in range(6)]),
    (7, [(0, 1), (0, 6), (1, 6), (2, 4), (3, 5)]),
    (7, [(k, 6) for k in range(6)]),
    (6, list(combinations(range(6), 2))[:12]),
    (6, list(combinations(range(6), 2))[3:]),
    (6, [(a, b) for a in range(3) for b in range(3, 6)]),
]
GREAT_WEBS = [(points, sorted(ties)) for points, ties in GREAT_WEBS]

THIRTEEN_TIES = list(combinations(range(7), 2))[:13]

NO_WEBS = [
    (-1, []),
    (-100, []),
    (8, []),
    (100, []),
    (-1, [(0, 1)]),
    (8, [(0, 1)]),
    (0, [(0, 1)]),
    (1, [(0, 0)]),
    (1, [(0, 1)]),
    (3, [(0, 1), (0, 1)]),
    (3, [(0, 1), (0, 2), (0, 1)]),
    (3, [(0, 2), (0, 1)]),
    (3, [(1, 2), (0, 1)]),
    (3, [(0, 2), (1, 2), (0, 1)]),
    (3, [(1, 0)]),
    (3, [(0, 1), (2, 1)]),
    (3, [(1, 1)]),
    (3, [(0, 1), (2, 2)]),
    (3, [(-1, 1)]),
    (3, [(-2, -1)]),
    (3, [(-100, 100)]),
    (3, [(0, 3)]),
    (3, [(2, 3)]),
    (3, [(0, 1), (3, 4)]),
    (7, [(0, 7)]),
    (7, THIRTEEN_TIES),
    (7, list(combinations(range(7), 2))),
    (6, list(combinations(range(6), 2))),
    (6, list(combinations(range(6), 2))[:13]),
]


def dyeings_by_hand(points, ties, many):
    """The dyeings, the least one first: lists are gone through in the order of their first unlike dyes."""
    for dyes in product(range(many), repeat=points):
        for a, b in ties:
            if dyes[a] == dyes[b]:
                break
        else:
            yield list(dyes)


def least_by_hand(points, ties, many):
    return next(dyeings_by_hand(points, ties, many), None)


def fewest_by_hand(points, ties):
    return min(many for many in range(8) if least_by_hand(points, ties, many) is not None)


def all_settings(ties):
    return [list(arrows) for arrows in product((True, False), repeat=len(ties))]


def steps_by_hand(ties, arrows):
    """The arrows as tuples: where each begins and where it leads."""
    return [(a, b) if arrows[place] else (b, a) for place, (a, b) in enumerate(ties)]


def ranks_by_hand(points, ties, arrows):
    """The ranks, each way followed arrow by arrow; None where one comes to a point again."""
    steps = steps_by_hand(ties, arrows)
    longest = [0] * points
    ways = [[point] for point in range(points)]
    while ways:
        way = ways.pop()
        longest[way[-1]] = max(longest[way[-1]], len(way) - 1)
        for start, end in steps:
            if start == way[-1]:
                if end in way:
                    return None
                ways.append(way + [end])
    return longest


def settings_that_do_not_go_round(points, ties):
    return [arrows for arrows in all_settings(ties) if ranks_by_hand(points, ties, arrows) is not None]
