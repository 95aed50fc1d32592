import unittest
from itertools import combinations, product

from dyeweb.counts import from_spring, pairs, settings, unbroken
from dyeweb.rows import row

from sample_webs import GREAT_WEBS, all_webs, settings_that_do_not_go_round, steps_by_hand, webs_up_to

RING_OF_SIX = (6, [(0, 1), (0, 5), (1, 2), (2, 3), (3, 4), (4, 5)])
SOME_OF_FIVE = all_webs(5)[::23]
SOME_GREAT = [RING_OF_SIX, GREAT_WEBS[0], GREAT_WEBS[1], GREAT_WEBS[2]]


def springs_by_hand(points, ties, arrows):
    led_to = [end for start, end in steps_by_hand(ties, arrows)]
    return [point for point in range(points) if point not in led_to]


def pairs_by_hand(points, ties, q):
    found = 0
    for arrows in settings_that_do_not_go_round(points, ties):
        steps = steps_by_hand(ties, arrows)
        for dyes in product(range(q), repeat=points):
            if all(dyes[start] <= dyes[end] for start, end in steps):
                found += 1
    return found


def is_ring(ties):
    """Whether one goes through all these ties, no point twice, and is back where one began."""
    if len(ties) < 3:
        return False
    left = list(ties)
    start, here = left.pop()
    met = [here]
    while left:
        onward = [tie for tie in left if here in tie]
        if len(onward) != 1:
            return False
        left.remove(onward[0])
        here = sum(onward[0]) - here
        if here in met:
            return False
        met.append(here)
    return here == start


def broken_rings(ties):
    """Chosen in the order of the web's list, a ring's first tie stands first in what is chosen."""
    found = []
    for many in range(3, len(ties) + 1):
        found.extend(set(chosen[1:]) for chosen in combinations(ties, many) if is_ring(chosen))
    return found


def unbroken_by_hand(ties, many):
    broken = broken_rings(ties)
    return len([chosen for chosen in combinations(ties, many) if not any(ring <= set(chosen) for ring in broken)])


class CountCase(unittest.TestCase):
    def assert_count(self, told, wanted, handed):
        self.assertIs(type(told), int)
        self.assertGreaterEqual(told, 0)
        self.assertEqual(told, wanted, handed)


class TestSettings(CountCase):
    def test_plain_webs(self):
        self.assert_count(settings(0, []), 1, "no points")
        for points in range(8):
            self.assert_count(settings(points, []), 1, points)
        self.assert_count(settings(2, [(0, 1)]), 2, "one tie")
        self.assert_count(settings(3, [(0, 1), (0, 2), (1, 2)]), 6, "a triangle")
        self.assert_count(settings(*RING_OF_SIX), 62, "a ring")
        self.assert_count(settings(7, [(k, k + 1) for k in range(6)]), 64, "no ring")

    def test_all_settings_gone_through(self):
        for points, ties in webs_up_to(4) + SOME_OF_FIVE + SOME_GREAT:
            kept = list(ties)
            wanted = len(settings_that_do_not_go_round(points, ties))
            self.assert_count(settings(points, ties), wanted, (points, ties))
            self.assertEqual(ties, kept)

    def test_pairs_with_one_dye(self):
        for points, ties in webs_up_to(5) + GREAT_WEBS:
            self.assertEqual(settings(points, ties), pairs(points, ties, 1))


class TestFromSpring(CountCase):
    def test_plain_webs(self):
        self.assert_count(from_spring(1, [], 0), 1, "one point")
        self.assert_count(from_spring(2, [], 0), 0, "two springs")
        self.assert_count(from_spring(2, [(0, 1)], 0), 1, "one tie")
        self.assert_count(from_spring(3, [(0, 1), (0, 2), (1, 2)], 1), 2, "a triangle")
        self.assert_count(from_spring(4, [(0, 1), (2, 3)], 3), 0, "two pieces")

    def test_all_settings_gone_through(self):
        for points, ties in webs_up_to(4) + SOME_OF_FIVE + SOME_GREAT:
            kept = list(ties)
            springs = [springs_by_hand(points, ties, arrows) for arrows in settings_that_do_not_go_round(points, ties)]
            for point in range(points):
                told = from_spring(points, ties, point)
                self.assert_count(told, springs.count([point]), (points, ties, point))
            self.assertEqual(ties, kept)

    def test_the_same_for_each_point(self):
        for points, ties in webs_up_to(5) + GREAT_WEBS:
            told = [from_spring(points, ties, point) for point in range(points)]
            self.assertEqual(told, [abs(row(points, ties)[1])] * points if points else [])

    def test_a_point_that_the_web_does_not_have_is_no_spring(self):
        for point in (-100, -1, 0, 1, 100):
            self.assert_count(from_spring(0, [], point), 0, point)
        for point in (-100, -1, 2, 3, 100):
            self.assert_count(from_spring(2, [(0, 1)], point), 0, point)


class TestPairs(CountCase):
    def test_no_dyes(self):
        self.assert_count(pairs(0, [], 0), 1, "no points")
        for points, ties in webs_up_to(4) + GREAT_WEBS:
            self.assert_count(pairs(points, ties, 0), 0 if points else 1, (points, ties))

    def test_one_dye(self):
        for points, ties in webs_up_to(4) + SOME_GREAT:
            wanted = len(settings_that_do_not_go_round(points, ties))
            self.assert_count(pairs(points, ties, 1), wanted, (points, ties))

    def test_plain_webs(self):
        for q in range(21):
            self.assert_count(pairs(0, [], q), 1, q)
            self.assert_count(pairs(3, [], q), q ** 3, q)
            self.assert_count(pairs(2, [(0, 1)], q), q * (q + 1), q)
            self.assert_count(pairs(3, [(0, 1), (0, 2), (1, 2)], q), q * (q + 1) * (q + 2), q)

    def test_all_settings_and_lists_of_dyes_gone_through(self):
        for points, ties in webs_up_to(3):
            for q in range(6):
                self.assert_count(pairs(points, ties, q), pairs_by_hand(points, ties, q), (points, ties, q))
        for points, ties in all_webs(4):
            for q in range(4):
                self.assert_count(pairs(points, ties, q), pairs_by_hand(points, ties, q), (points, ties, q))
        for points, ties in SOME_OF_FIVE[:20] + [RING_OF_SIX]:
            self.assert_count(pairs(points, ties, 2), pairs_by_hand(points, ties, 2), (points, ties))

    def test_never_below_nought(self):
        for points, ties in webs_up_to(4) + GREAT_WEBS:
            kept = list(ties)
            for q in range(21):
                told = pairs(points, ties, q)
                self.assertIs(type(told), int)
                self.assertGreaterEqual(told, 1 if q > 0 else 0)
            self.assertEqual(ties, kept)


class TestUnbroken(CountCase):
    def test_rings_by_hand(self):
        ties = [(0, 1), (0, 2), (0, 3), (1, 2), (2, 3)]
        self.assertEqual(broken_rings(ties), [{(0, 2), (1, 2)}, {(0, 3), (2, 3)}, {(0, 3), (1, 2), (2, 3)}])
        self.assertIs(is_ring([(0, 1), (0, 2), (1, 2), (3, 4), (3, 5), (4, 5)]), False)
        self.assertIs(is_ring([(0, 1), (0, 2), (0, 3), (0, 4), (1, 2), (3, 4)]), False)
        self.assertIs(is_ring(RING_OF_SIX[1]), True)

    def test_plain_webs(self):
        triangle = (3, [(0, 1), (0, 2), (1, 2)])
        self.assertEqual([unbroken(*triangle, many) for many in range(5)], [1, 3, 2, 0, 0])
        self.assertEqual([unbroken(*RING_OF_SIX, many) for many in range(8)], [1, 6, 15, 20, 15, 5, 0, 0])

    def test_no_points(self):
        self.assert_count(unbroken(0, [], 0), 1, 0)
        for many in range(1, 21):
            self.assert_count(unbroken(0, [], many), 0, many)

    def test_no_ties(self):
        for points in range(8):
            for many in range(21):
                self.assert_count(unbroken(points, [], many), 1 if many == 0 else 0, (points, many))

    def test_the_set_without_ties(self):
        for points, ties in webs_up_to(5) + GREAT_WEBS:
            self.assert_count(unbroken(points, ties, 0), 1, (points, ties))

    def test_as_many_as_points_and_more(self):
        for points, ties in webs_up_to(5) + GREAT_WEBS:
            for many in range(max(points, 1), 21):
                self.assert_count(unbroken(points, ties, many), 0, (points, ties, many))

    def test_all_sets_of_ties_gone_through(self):
        for points, ties in webs_up_to(4) + SOME_OF_FIVE + SOME_GREAT:
            kept = list(ties)
            for many in range(points + 3):
                wanted = unbroken_by_hand(ties, many)
                self.assert_count(unbroken(points, ties, many), wanted, (points, ties, many))
            self.assertEqual(ties, kept)

    def test_the_signs_of_the_row(self):
        for points, ties in webs_up_to(5) + GREAT_WEBS:
            told = row(points, ties)
            for many in range(points + 1):
                sign = 1 if many % 2 == 0 else -1
                self.assertEqual(told[points - many], sign * unbroken(points, ties, many), (points, ties, many))

    def test_fewer_than_no_ties(self):
        for many in (-1, -2, -8, -100):
            self.assert_count(unbroken(0, [], many), 0, many)
            self.assert_count(unbroken(3, [(0, 1)], many), 0, many)


if __name__ == "__main__":
    unittest.main()
