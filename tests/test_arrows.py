import unittest
from itertools import product

from dyeweb.arrows import flattest, goes_round, ranks, setting_of
from dyeweb.dyes import is_dyeing
from dyeweb.errors import GoesRound, NoDyeing, NoSetting, NoWeb

from sample_webs import (
    GREAT_WEBS, NO_WEBS, all_settings, dyeings_by_hand, fewest_by_hand, least_by_hand, ranks_by_hand, webs_up_to,
)

TRIANGLE = (3, [(0, 1), (0, 2), (1, 2)])
ROUND = [True, False, True]


def ring(points):
    return (points, sorted([(0, points - 1)] + [(k, k + 1) for k in range(points - 1)]))


def round_the_ring(points):
    return [tie != (0, points - 1) for tie in ring(points)[1]]


class ArrowCase(unittest.TestCase):
    def refuses(self, error, act, *handed):
        with self.assertRaises(error, msg=handed) as caught:
            act(*handed)
        self.assertIs(type(caught.exception), error)

    def assert_arrows(self, told, ties):
        self.assertIs(type(told), list)
        self.assertEqual([type(arrow) for arrow in told], [bool] * len(ties))


class TestGoesRoundAndRanks(ArrowCase):
    def asks(self, points, ties, arrows):
        kept = (list(ties), list(arrows))
        wanted = ranks_by_hand(points, ties, arrows)
        self.assertIs(goes_round(points, ties, arrows), wanted is None, (points, ties, arrows))
        if wanted is None:
            self.refuses(GoesRound, ranks, points, ties, arrows)
        else:
            told = ranks(points, ties, arrows)
            self.assertIs(type(told), list)
            self.assertEqual([type(rank) for rank in told], [int] * points)
            self.assertEqual(told, wanted, (points, ties, arrows))
        self.assertEqual((ties, arrows), kept)

    def test_no_ties(self):
        for points in range(8):
            self.assertIs(goes_round(points, [], []), False)
            self.assertEqual(ranks(points, [], []), [0] * points)

    def test_one_tie(self):
        self.assertEqual(ranks(2, [(0, 1)], [True]), [0, 1])
        self.assertEqual(ranks(2, [(0, 1)], [False]), [1, 0])
        self.assertIs(goes_round(2, [(0, 1)], [False]), False)

    def test_three_points(self):
        self.assertIs(goes_round(*TRIANGLE, ROUND), True)
        self.assertIs(goes_round(*TRIANGLE, [False, True, False]), True)
        self.assertEqual(ranks(*TRIANGLE, [True, True, True]), [0, 1, 2])
        self.assertEqual(ranks(*TRIANGLE, [False, False, False]), [2, 1, 0])
        self.assertEqual(ranks(*TRIANGLE, [True, True, False]), [0, 2, 1])
        self.assertEqual(ranks(3, [(0, 2), (1, 2)], [False, True]), [2, 0, 1])

    def test_the_longest_way_counts_not_the_shortest(self):
        ties = [(0, 1), (0, 4), (1, 2), (2, 3), (3, 4)]
        self.assertEqual(ranks(5, ties, [True] * 5), [0, 1, 2, 3, 4])
        self.assertEqual(ranks(5, ties, [False] * 5), [4, 3, 2, 1, 0])

    def test_rings_of_three_points_and_more(self):
        for points in range(3, 8):
            ties = ring(points)[1]
            arrows = round_the_ring(points)
            back = [not arrow for arrow in arrows]
            for goes in (arrows, back):
                self.assertIs(goes_round(points, ties, goes), True, goes)
                self.refuses(GoesRound, ranks, points, ties, goes)
                for place in range(len(ties)):
                    turned = list(goes)
                    turned[place] = not turned[place]
                    self.asks(points, ties, turned)
                    self.assertIs(goes_round(points, ties, turned), False, turned)

    def test_a_ring_apart_from_the_first_points(self):
        ties = [(0, 1), (4, 5), (4, 6), (5, 6)]
        self.assertIs(goes_round(7, ties, [True] + ROUND), True)
        self.refuses(GoesRound, ranks, 7, ties, [True] + ROUND)
        self.assertEqual(ranks(7, ties, [False, True, True, True]), [1, 0, 0, 0, 0, 1, 2])

    def test_a_ring_that_ways_lead_into_or_out_of(self):
        ties = [(0, 1), (0, 2), (1, 2), (2, 3), (3, 4)]
        for ends in ([True, True], [False, False], [True, False], [False, True]):
            self.assertIs(goes_round(5, ties, ROUND + ends), True)
            self.refuses(GoesRound, ranks, 5, ties, ROUND + ends)

    def test_each_setting_of_small_webs(self):
        for points, ties in webs_up_to(4):
            for arrows in all_settings(ties):
                self.asks(points, ties, arrows)

    def test_each_setting_of_some_greater_webs(self):
        five_tied = (5, [(a, b) for a in range(5) for b in range(a + 1, 5)])
        for points, ties in [five_tied, ring(6), ring(7), GREAT_WEBS[0], GREAT_WEBS[2]]:
            for arrows in all_settings(ties):
                self.asks(points, ties, arrows)

    def test_the_ranks_are_a_dyeing(self):
        for points, ties in webs_up_to(4) + [ring(5), ring(6)]:
            for arrows in all_settings(ties):
                if not goes_round(points, ties, arrows):
                    told = ranks(points, ties, arrows)
                    self.assertIs(is_dyeing(points, ties, told, max(told, default=-1) + 1), True)

    def test_no_setting(self):
        for points, ties in webs_up_to(3) + GREAT_WEBS:
            for arrow in (True, False):
                for length in {len(ties) - 1, len(ties) + 1, 0, 20} - {-1, len(ties)}:
                    self.refuses(NoSetting, goes_round, points, ties, [arrow] * length)
                    self.refuses(NoSetting, ranks, points, ties, [arrow] * length)

    def test_no_setting_comes_ahead_of_going_round(self):
        for arrows in (ROUND + [True], ROUND + [False], ROUND + ROUND):
            self.refuses(NoSetting, ranks, *TRIANGLE, arrows)
            self.refuses(NoSetting, goes_round, *TRIANGLE, arrows)
        # The first three ties go round, and the arrow of the fourth one is missing.
        self.refuses(NoSetting, ranks, 4, TRIANGLE[1] + [(2, 3)], ROUND)
        self.refuses(GoesRound, ranks, 4, TRIANGLE[1] + [(2, 3)], ROUND + [True])

    def test_no_web_comes_first(self):
        for points, ties in NO_WEBS:
            for arrows in ([True] * len(ties), [False] * (len(ties) + 1), [True] * max(0, len(ties) - 1), ROUND):
                self.refuses(NoWeb, goes_round, points, ties, arrows)
                self.refuses(NoWeb, ranks, points, ties, arrows)
        self.refuses(NoWeb, ranks, 8, TRIANGLE[1], ROUND)
        self.refuses(NoWeb, ranks, 2, TRIANGLE[1], ROUND)

    def test_what_is_handed_in_stays_when_refused(self):
        for points, handed, arrows in [(2, TRIANGLE[1], ROUND), (3, TRIANGLE[1], ROUND[:2]), (3, TRIANGLE[1], ROUND)]:
            ties = list(handed)
            kept = list(arrows)
            with self.assertRaises(ValueError):
                ranks(points, ties, arrows)
            self.assertEqual((ties, arrows), (handed, kept))

    def test_the_ranks_told_may_be_changed(self):
        for points, ties, arrows in [(0, [], []), (2, [], []), TRIANGLE + ([True, True, False],)]:
            first = ranks(points, ties, arrows)
            wanted = list(first)
            first.append("changed")
            self.assertEqual(ranks(points, ties, arrows), wanted)

    def test_what_is_handed_in_may_be_changed_later(self):
        ties = list(TRIANGLE[1])
        arrows = [True, True, True]
        told = ranks(3, ties, arrows)
        arrows[1] = False
        self.assertEqual(told, [0, 1, 2])
        self.assertIs(goes_round(3, ties, arrows), True)
        ties.pop()
        arrows.pop()
        self.assertEqual(told, [0, 1, 2])
        self.assertEqual(ranks(3, ties, arrows), [1, 2, 0])


class TestSettingOf(ArrowCase):
    def asks(self, points, ties, dyes):
        kept = (list(ties), list(dyes))
        told = setting_of(points, ties, dyes)
        self.assert_arrows(told, ties)
        self.assertEqual(told, [True if dyes[a] < dyes[b] else False for a, b in ties])
        self.assertIs(goes_round(points, ties, told), False)
        for rank, dye in zip(ranks(points, ties, told), dyes, strict=True):
            self.assertLessEqual(rank, dye)
        self.assertEqual((ties, dyes), kept)

    def test_plain_dyeings(self):
        self.assertEqual(setting_of(2, [(0, 1)], [0, 1]), [True])
        self.assertEqual(setting_of(2, [(0, 1)], [1, 0]), [False])
        self.assertEqual(setting_of(*TRIANGLE, [1, 2, 0]), [True, False, False])
        self.assertEqual(setting_of(*TRIANGLE, [0, 100, 99]), [True, True, False])

    def test_no_points_and_points_without_ties(self):
        self.assertEqual(setting_of(0, [], []), [])
        for points in range(8):
            self.assertEqual(setting_of(points, [], [100] * points), [])

    def test_dyes_from_nought_to_a_hundred(self):
        for one, other in product(range(101), repeat=2):
            if one == other:
                self.refuses(NoDyeing, setting_of, 2, [(0, 1)], [one, other])
            else:
                self.assertEqual(setting_of(2, [(0, 1)], [one, other]), [one < other])
                self.assertEqual(setting_of(3, [(0, 2)], [one, one, other]), [one < other])

    def test_dyeings_of_small_webs(self):
        for points, ties in webs_up_to(4):
            for dyes in dyeings_by_hand(points, ties, 4):
                self.asks(points, ties, dyes)

    def test_dyeings_of_great_webs(self):
        for points, ties in GREAT_WEBS:
            for dyes in ([0, 1, 2, 3, 4, 5, 6], [100, 3, 98, 50, 0, 51, 99], [6, 5, 4, 3, 2, 1, 0]):
                self.asks(points, ties, dyes[:points])
            self.asks(points, ties, least_by_hand(points, ties, 7))

    def test_ends_alike_are_refused_at_each_tie(self):
        for points, ties in webs_up_to(4) + GREAT_WEBS:
            for a, b in ties:
                for dye in (0, 50, 100):
                    dyes = [10 * (point + 1) + 1 for point in range(points)]
                    dyes[a] = dye
                    dyes[b] = dye
                    kept = list(dyes)
                    self.refuses(NoDyeing, setting_of, points, ties, dyes)
                    self.assertEqual(dyes, kept)

    def test_lists_of_dyes_of_small_webs(self):
        for points, ties in webs_up_to(3):
            dyeings = list(dyeings_by_hand(points, ties, 3))
            for dyes in product(range(3), repeat=points):
                if list(dyes) in dyeings:
                    self.asks(points, ties, list(dyes))
                else:
                    self.refuses(NoDyeing, setting_of, points, ties, list(dyes))

    def test_no_web_comes_first(self):
        for points, ties in NO_WEBS:
            for dye in (0, 1, 100):
                for length in (max(points, 0), 0, 3, 7):
                    self.refuses(NoWeb, setting_of, points, ties, [dye] * length)
                self.refuses(NoWeb, setting_of, points, ties, list(range(dye, dye + max(points, 0))))

    def test_the_arrows_told_may_be_changed(self):
        ties = list(TRIANGLE[1])
        dyes = [0, 1, 2]
        first = setting_of(3, ties, dyes)
        first[0] = "changed"
        second = setting_of(3, ties, dyes)
        self.assertEqual(second, [True, True, True])
        dyes[2] = 50
        dyes[0] = 60
        ties.pop()
        self.assertEqual(second, [True, True, True])
        self.assertEqual(setting_of(3, ties, dyes), [False, False])


class TestFlattest(ArrowCase):
    def asks(self, points, ties):
        kept = list(ties)
        told = flattest(points, ties)
        self.assert_arrows(told, ties)
        self.assertEqual(ties, kept)
        many = fewest_by_hand(points, ties)
        dyes = least_by_hand(points, ties, many)
        self.assertEqual(told, [dyes[a] < dyes[b] for a, b in ties], (points, ties))
        if points > 0:
            self.assertEqual(max(ranks_by_hand(points, ties, told)), many - 1, (points, ties))
        return told

    def test_no_points(self):
        self.assertEqual(flattest(0, []), [])

    def test_points_without_ties(self):
        for points in range(8):
            self.assertEqual(flattest(points, []), [])

    def test_plain_webs(self):
        self.assertEqual(flattest(2, [(0, 1)]), [True])
        self.assertEqual(flattest(3, [(0, 1), (1, 2)]), [True, False])
        self.assertEqual(flattest(*TRIANGLE), [True, True, True])
        self.assertEqual(flattest(4, [(0, 2), (1, 3), (2, 3)]), [True, False, False])

    def test_all_settings_of_webs_of_up_to_five_points_and_six_ties(self):
        for points, ties in webs_up_to(5):
            if len(ties) > 6:
                continue
            told = self.asks(points, ties)
            heights = {}
            for arrows in all_settings(ties):
                found = ranks_by_hand(points, ties, arrows)
                if found is not None:
                    heights[tuple(arrows)] = max(found, default=-1)
            self.assertEqual(heights[tuple(told)], min(heights.values()), (points, ties))

    def test_great_webs(self):
        for points, ties in webs_up_to(5)[-200:] + GREAT_WEBS:
            self.asks(points, ties)

    def test_refuses_what_is_no_web(self):
        for points, ties in NO_WEBS:
            self.refuses(NoWeb, flattest, points, ties)

    def test_the_arrows_told_may_be_changed(self):
        ties = list(TRIANGLE[1])
        flattest(3, ties).clear()
        told = flattest(3, ties)
        self.assertEqual(told, [True, True, True])
        ties.pop()
        self.assertEqual(told, [True, True, True])
        self.assertEqual(flattest(3, ties), [True, True])


if __name__ == "__main__":
    unittest.main()
