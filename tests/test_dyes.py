import unittest
from itertools import product

from dyeweb.dyes import fewest, is_dyeing, least
from dyeweb.rows import row, worth

from sample_webs import GREAT_WEBS, dyeings_by_hand, fewest_by_hand, least_by_hand, webs_up_to

TWELVE_TIES = [web for web in GREAT_WEBS if web[0] == 7 and len(web[1]) == 12]
PATH = (3, [(0, 1), (1, 2)])
RING_OF_FIVE = (5, [(0, 1), (0, 4), (1, 2), (2, 3), (3, 4)])


class TestIsDyeing(unittest.TestCase):
    def asks(self, wanted, points, ties, dyes, many):
        kept = (list(ties), list(dyes))
        self.assertIs(is_dyeing(points, ties, dyes, many), wanted, (points, ties, dyes, many))
        self.assertEqual((ties, dyes), kept)

    def test_dyeings(self):
        self.asks(True, *PATH, [0, 1, 0], 2)
        self.asks(True, *PATH, [1, 0, 2], 3)
        self.asks(True, *PATH, [6, 0, 6], 7)
        self.asks(True, 3, [], [0, 0, 0], 1)

    def test_ends_alike(self):
        self.asks(False, *PATH, [0, 0, 1], 2)
        self.asks(False, *PATH, [1, 0, 0], 2)
        self.asks(False, *PATH, [2, 2, 2], 3)
        for points, ties in GREAT_WEBS:
            for a, b in ties:
                dyes = list(range(points))
                self.asks(True, points, ties, dyes, points)
                dyes[b] = dyes[a]
                self.asks(False, points, ties, dyes, points)

    def test_too_short(self):
        for dyes in ([], [0], [0, 1]):
            self.asks(False, *PATH, dyes, 2)
            self.asks(False, 3, [], dyes, 2)
        # A tie leads beyond the list's end here.
        for dyes in ([], [0], [0, 1], [0, 1, 0, 1, 0, 1]):
            self.asks(False, 7, [(0, 6), (5, 6)], dyes, 3)

    def test_too_long(self):
        self.asks(False, *PATH, [0, 1, 0, 1], 2)
        self.asks(False, *PATH, [0, 1, 0] * 20, 2)
        self.asks(False, 0, [], [0], 1)
        self.asks(False, 1, [], [0, 0], 7)

    def test_a_dye_below_nought(self):
        for dye in (-1, -2, -100):
            self.asks(False, *PATH, [dye, 0, 1], 2)
            self.asks(False, *PATH, [0, dye, 0], 2)
            self.asks(False, *PATH, [0, 1, dye], 7)
            self.asks(False, 1, [], [dye], 7)

    def test_a_dye_at_the_number_of_dyes_and_beyond(self):
        for many in range(8):
            for dye in (many, many + 1, 100):
                self.asks(False, 1, [], [dye], many)
                self.asks(False, 2, [(0, 1)], [0, dye], many)
                self.asks(False, 2, [(0, 1)], [dye, 0], many)

    def test_no_dyes(self):
        self.asks(True, 0, [], [], 0)
        self.asks(False, 0, [], [0], 0)
        for points in range(1, 8):
            self.asks(False, points, [], [], 0)
            self.asks(False, points, [], [0] * points, 0)
            self.asks(False, points, [], [-1] * points, 0)

    def test_no_points(self):
        for many in range(8):
            self.asks(True, 0, [], [], many)

    def test_all_lists_for_small_webs(self):
        for points, ties in webs_up_to(3):
            for many in range(4):
                dyeings = list(dyeings_by_hand(points, ties, many))
                for length in range(5):
                    for dyes in product(range(-1, 5), repeat=length):
                        self.asks(list(dyes) in dyeings, points, ties, list(dyes), many)

    def test_as_many_as_the_row_tells(self):
        for points, ties in webs_up_to(4):
            for many in range(5):
                told = [is_dyeing(points, ties, list(dyes), many) for dyes in product(range(many), repeat=points)]
                self.assertEqual(told.count(True), worth(row(points, ties), many), (points, ties, many))

    def test_nothing_is_refused_for_more_dyes(self):
        self.asks(True, *PATH, [9, 0, 8], 10)
        self.asks(False, *PATH, [9, 0, 8], 9)


class TestFewest(unittest.TestCase):
    def test_no_points(self):
        self.assertEqual(fewest(0, []), 0)

    def test_points_without_ties(self):
        for points in range(1, 8):
            self.assertEqual(fewest(points, []), 1)

    def test_plain_webs(self):
        self.assertEqual(fewest(2, [(0, 1)]), 2)
        self.assertEqual(fewest(*PATH), 2)
        self.assertEqual(fewest(*RING_OF_FIVE), 3)
        for points in range(6):
            self.assertEqual(fewest(points, [(a, b) for a in range(points) for b in range(a + 1, points)]), points)

    def test_all_webs_of_up_to_five_points(self):
        for points, ties in webs_up_to(5):
            kept = list(ties)
            told = fewest(points, ties)
            self.assertIs(type(told), int)
            self.assertEqual(told, fewest_by_hand(points, ties), (points, ties))
            self.assertEqual(ties, kept)

    def test_great_webs(self):
        self.assertEqual([fewest(points, ties) for points, ties in TWELVE_TIES], [2, 5, 4])
        for points, ties in GREAT_WEBS:
            self.assertEqual(fewest(points, ties), fewest_by_hand(points, ties), (points, ties))

    def test_the_row_is_worth_nought_just_below_the_fewest(self):
        for points, ties in webs_up_to(5) + GREAT_WEBS:
            told = row(points, ties)
            self.assertEqual(
                fewest(points, ties), min(many for many in range(8) if worth(told, many) > 0), (points, ties)
            )


class TestLeast(unittest.TestCase):
    def test_no_points(self):
        for many in range(8):
            self.assertEqual(least(0, [], many), [])

    def test_points_without_ties(self):
        for points in range(1, 8):
            self.assertIsNone(least(points, [], 0))
            for many in range(1, 8):
                self.assertEqual(least(points, [], many), [0] * points)

    def test_plain_webs(self):
        self.assertEqual(least(*PATH, 2), [0, 1, 0])
        self.assertEqual(least(*RING_OF_FIVE, 3), [0, 1, 0, 1, 2])

    def test_the_least_dye_at_a_point_may_lead_nowhere(self):
        # With two dyes points 0 and 1 must differ, though nothing ties them.
        self.assertEqual(least(4, [(0, 2), (1, 3), (2, 3)], 2), [0, 1, 1, 0])
        self.assertEqual(least(4, [(0, 2), (1, 3), (2, 3)], 3), [0, 0, 1, 2])

    def test_fewer_dyes_than_the_fewest(self):
        for points, ties in webs_up_to(4) + GREAT_WEBS:
            for many in range(fewest_by_hand(points, ties)):
                self.assertIsNone(least(points, ties, many), (points, ties, many))

    def test_more_dyes_than_needed(self):
        for points, ties in [PATH, RING_OF_FIVE] + GREAT_WEBS:
            greedy = []
            for point in range(points):
                taken = [greedy[a] for a, b in ties if b == point]
                greedy.append(min(dye for dye in range(8) if dye not in taken))
            for many in (6, 7, 8, 20):
                self.assertEqual(least(points, ties, many), greedy, (points, ties, many))

    def test_all_webs_of_up_to_five_points(self):
        for points, ties in webs_up_to(5):
            for many in range(5):
                kept = list(ties)
                self.assertEqual(least(points, ties, many), least_by_hand(points, ties, many), (points, ties, many))
                self.assertEqual(ties, kept)

    def test_great_webs(self):
        self.assertEqual(len(TWELVE_TIES), 3)
        for points, ties in GREAT_WEBS:
            for many in range(8):
                self.assertEqual(least(points, ties, many), least_by_hand(points, ties, many), (points, ties, many))

    def test_it_is_a_list_of_whole_numbers_and_a_dyeing(self):
        for points, ties in webs_up_to(4) + GREAT_WEBS:
            told = least(points, ties, 7)
            self.assertIs(type(told), list)
            self.assertEqual([type(dye) for dye in told], [int] * points)
            self.assertIs(is_dyeing(points, ties, told, 7), True)

    def test_the_list_told_may_be_changed(self):
        for points, ties in [(0, []), (3, []), PATH, RING_OF_FIVE] + GREAT_WEBS:
            first = least(points, ties, 5)
            wanted = list(first)
            first.append(99)
            first[0] = -1
            second = least(points, ties, 5)
            self.assertEqual(second, wanted)
            self.assertEqual(fewest(points, ties), fewest_by_hand(points, ties))

    def test_the_ties_may_be_changed_later(self):
        ties = [(0, 1), (0, 2), (1, 2)]
        told = least(3, ties, 3)
        ties.pop()
        self.assertEqual(told, [0, 1, 2])
        self.assertEqual(least(3, ties, 3), [0, 1, 1])
        self.assertEqual(fewest(3, ties), 2)


if __name__ == "__main__":
    unittest.main()
