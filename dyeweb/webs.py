"""Webs: which lists are a web's ties, a tie cut or merged, the pieces, two webs side by side."""

from dyeweb.errors import NoTie, NoWeb

MOST_POINTS = 7
MOST_TIES = 12


def is_web(points, ties):
    if points < 0 or points > MOST_POINTS or len(ties) > MOST_TIES:
        return False
    return ties_join_points(points, ties) and ties_rise(ties)


def ties_join_points(points, ties):
    return all([0 <= a and a < b and b < points for a, b in ties])


def ties_rise(ties):
    # Each tie is strictly above the one ahead of it, so this also finds a tie that stands twice.
    return all([ties[k - 1] < ties[k] for k in range(1, len(ties))])


def refuse_no_web(points, ties):
    if not is_web(points, ties):
        raise NoWeb("these points and ties are no web")


def refuse_no_tie(ties, tie):
    if tie not in ties:
        raise NoTie("the web does not have this tie")


def cut(points, ties, tie):
    refuse_no_web(points, ties)
    refuse_no_tie(ties, tie)
    return other_ties(ties, tie)


def merged(points, ties, tie):
    refuse_no_web(points, ties)
    refuse_no_tie(ties, tie)
    return merged_ties(ties, tie)


def other_ties(ties, tie):
    return [other for other in ties if other != tie]


def merged_ties(ties, tie):
    moved = []
    for a, b in other_ties(ties, tie):
        moved.append(rising_tie(merged_point(a, tie), merged_point(b, tie)))
    return sorted(set(moved))


def merged_point(point, tie):
    if point == tie[1]:
        return tie[0]
    if point > tie[1]:
        return point - 1
    return point


def rising_tie(a, b):
    return (min(a, b), max(a, b))


def pieces(points, ties):
    refuse_no_web(points, ties)
    # The least point of a piece stands for it, so that walking up the points meets the pieces in their order.
    heads = list(range(points))
    for a, b in ties:
        heads = joined_heads(heads, heads[a], heads[b])
    return [points_under(heads, head) for head in range(points) if heads[head] == head]


def joined_heads(heads, one, other):
    least = min(one, other)
    return [least if head in (one, other) else head for head in heads]


def points_under(heads, head):
    return [point for point in range(len(heads)) if heads[point] == head]


def beside(points, ties, more, others):
    refuse_no_web(points, ties)
    refuse_no_web(more, others)
    return list(ties) + [(a + points, b + points) for a, b in others]
