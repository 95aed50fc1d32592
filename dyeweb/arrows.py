"""Arrows: which settings of a web go round, the ranks of its points, the setting of a dyeing."""

from dyeweb.dyes import ends_alike, fewest, least
from dyeweb.errors import GoesRound, NoDyeing, NoSetting
from dyeweb.webs import refuse_no_web


def goes_round(points, ties, arrows):
    refuse_no_setting(points, ties, arrows)
    return some_way_goes_round(points, longest_ways(points, ties, arrows))


def ranks(points, ties, arrows):
    refuse_no_setting(points, ties, arrows)
    lengths = longest_ways(points, ties, arrows)
    if some_way_goes_round(points, lengths):
        raise GoesRound("this setting goes round")
    return lengths


def refuse_no_setting(points, ties, arrows):
    refuse_no_web(points, ties)
    if len(arrows) != len(ties):
        raise NoSetting("a setting has one arrow a tie")


def longest_ways(points, ties, arrows):
    # For each point the length of the longest way that ends there, among those of at most as many
    # arrows as there are points: where nothing goes round no way is longer.
    steps = [step_along(tie, arrow) for tie, arrow in zip(ties, arrows)]
    lengths = [0] * points
    for step in range(points):
        lengths = [longest_way_to(point, steps, lengths) for point in range(points)]
    return lengths


def step_along(tie, arrow):
    return tie if arrow else (tie[1], tie[0])


def longest_way_to(point, steps, lengths):
    return max([0] + [lengths[start] + 1 for start, end in steps if end == point])


def some_way_goes_round(points, lengths):
    # A way with as many arrows as there are points comes to some point twice.
    return points in lengths


def setting_of(points, ties, dyes):
    refuse_no_web(points, ties)
    if ends_alike(ties, dyes):
        raise NoDyeing("a tie has one dye at both ends")
    return [dyes[a] < dyes[b] for a, b in ties]


def flattest(points, ties):
    return setting_of(points, ties, least(points, ties, fewest(points, ties)))
