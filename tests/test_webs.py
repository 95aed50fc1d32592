import unittest
from itertools import combinations, product

from dyeweb.errors import NoTie, NoWeb
from dyeweb.webs import beside, cut, is_web, merged, pieces

from sample_webs import GREAT_WEBS, NO_WEBS, THIRTEEN_TIES, webs_up_to

WEBS = webs_up_to(4) + GREAT_WEBS


def is_web_by_the_document(points, ties):
    if not 0 <= points <= 7 or len(ties) > 12:
        return False
    pairs = list(combinations(range(points), 2))
    return [pair for pair in pairs if pair in ties] == ties


def merged_by_the_document(points, ties, tie):
    lesser, greater = tie
    names = [lesser if point == greater else point for point in range(points)]
    left = [point for point in range(points) if point != greater]
    joined = {frozenset(left.index(names[end]) for end in other) for other in ties if other != tie}
    return [pair for pair in combinations(range(points - 1), 2) if frozenset(pair) in joined]


def pieces_by_the_document(points, ties):
    found = []
    for start in range(points):
        reached = {start}
        for step in range(points):
            reached |= {end for tie in ties for end in tie if reached & set(tie)}
        if min(reached) == start:
            found.append(sorted(reached))
    return found


class WebCase(unittest.TestCase):
    def assert_ties(self, told, points):
        self.assertIs(type(told), list)
        for tie in told:
            self.assertIs(type(tie), tuple)
            self.assertEqual([type(end) for end in tie], [int, int])
        self.assertTrue(is_web_by_the_document(points, told), (points, told))


class TestIsWeb(unittest.TestCase):
    def test_no_tie_and_nought_to_seven_points(self):
        for points in range(8):
            self.assertIs(is_web(points, []), True)

    def test_too_few_or_too_many_points(self):
        for points in list(range(-100, 0)) + list(range(8, 101)):
            self.assertIs(is_web(points, []), False)
            self.assertIs(is_web(points, [(0, 1)]), False)

    def test_twelve_ties_but_not_thirteen(self):
        self.assertIs(is_web(7, THIRTEEN_TIES[:12]), True)
        self.assertIs(is_web(7, THIRTEEN_TIES[1:]), True)
        self.assertIs(is_web(7, THIRTEEN_TIES), False)
        self.assertIs(is_web(6, list(combinations(range(6), 2))[:12]), True)
        self.assertIs(is_web(6, list(combinations(range(6), 2))[:13]), False)
        self.assertIs(is_web(7, list(combinations(range(7), 2))), False)

    def test_webs(self):
        for points, ties in WEBS:
            self.assertIs(is_web(points, ties), True, (points, ties))

    def test_no_webs(self):
        for points, ties in NO_WEBS:
            self.assertIs(is_web(points, ties), False, (points, ties))

    def test_every_tie_that_can_be_handed_in(self):
        for a, b in product(range(-100, 101), repeat=2):
            self.assertIs(is_web(7, [(a, b)]), 0 <= a < b < 7, (a, b))

    def test_all_short_lists_of_ties_near_the_points(self):
        near = list(product(range(-1, 4), repeat=2))
        for many in range(3):
            for chosen in product(near, repeat=many):
                ties = list(chosen)
                for points in range(5):
                    self.assertIs(is_web(points, ties), is_web_by_the_document(points, ties), (points, ties))

    def test_all_orders_of_three_ties(self):
        for chosen in product(combinations(range(4), 2), repeat=3):
            ties = list(chosen)
            self.assertIs(is_web(4, ties), is_web_by_the_document(4, ties), ties)

    def test_the_list_stays(self):
        for points, ties in WEBS + NO_WEBS:
            kept = list(ties)
            is_web(points, ties)
            self.assertEqual(ties, kept)


class TestCut(WebCase):
    def test_one_tie_cut(self):
        self.assertEqual(cut(2, [(0, 1)], (0, 1)), [])
        self.assertEqual(cut(4, [(0, 1), (1, 2), (2, 3)], (1, 2)), [(0, 1), (2, 3)])

    def test_each_tie_of_many_webs(self):
        for points, ties in WEBS:
            for place, tie in enumerate(ties):
                told = cut(points, ties, tie)
                self.assertEqual(told, ties[:place] + ties[place + 1:])
                self.assert_ties(told, points)


class TestMerged(WebCase):
    def test_one_tie_merged(self):
        self.assertEqual(merged(2, [(0, 1)], (0, 1)), [])

    def test_points_above_get_numbers_one_less(self):
        self.assertEqual(merged(6, [(0, 1), (1, 3), (3, 4), (4, 5)], (1, 3)), [(0, 1), (1, 3), (3, 4)])

    def test_ties_that_come_to_be_alike_are_one(self):
        self.assertEqual(merged(3, [(0, 1), (0, 2), (1, 2)], (0, 2)), [(0, 1)])
        self.assertEqual(merged(4, [(0, 1), (0, 2), (1, 2), (2, 3)], (0, 2)), [(0, 1), (0, 2)])

    def test_ties_of_the_greater_point_are_set_right_and_in_order(self):
        self.assertEqual(merged(4, [(0, 3), (1, 2), (2, 3)], (0, 3)), [(0, 2), (1, 2)])
        self.assertEqual(merged(4, [(0, 2), (1, 3), (2, 3)], (1, 3)), [(0, 2), (1, 2)])

    def test_each_tie_of_many_webs(self):
        for points, ties in WEBS:
            for tie in ties:
                told = merged(points, ties, tie)
                self.assertEqual(told, merged_by_the_document(points, ties, tie), (points, ties, tie))
                self.assert_ties(told, points - 1)


class TestCutAndMergedRefuse(unittest.TestCase):
    def refuses(self, error, points, ties, tie):
        for act in (cut, merged):
            with self.assertRaises(error, msg=(points, ties, tie)) as caught:
                act(points, ties, tie)
            self.assertIs(type(caught.exception), error)

    def test_ties_that_the_web_does_not_have(self):
        for points, ties in [(0, []), (2, []), (2, [(0, 1)]), (3, [(0, 1), (1, 2)]), GREAT_WEBS[0]]:
            for tie in product(range(-2, points + 3), repeat=2):
                if tie not in ties:
                    self.refuses(NoTie, points, ties, tie)

    def test_ties_turned_about(self):
        for points, ties in GREAT_WEBS:
            for a, b in ties:
                self.refuses(NoTie, points, ties, (b, a))

    def test_ties_far_off(self):
        for tie in product((-100, 100), repeat=2):
            self.refuses(NoTie, 3, [(0, 1)], tie)

    def test_no_web_comes_first(self):
        for points, ties in NO_WEBS:
            for tie in ties + [(5, 6), (1, 0), (-1, 100)]:
                self.refuses(NoWeb, points, ties, tie)

    def test_the_list_stays_when_refused(self):
        ties = [(1, 2), (0, 1)]
        self.refuses(NoWeb, 3, ties, (0, 1))
        self.assertEqual(ties, [(1, 2), (0, 1)])
        ties = [(0, 1), (1, 2)]
        self.refuses(NoTie, 3, ties, (0, 2))
        self.assertEqual(ties, [(0, 1), (1, 2)])


class TestCutAndMergedKeepNothing(unittest.TestCase):
    def test_the_list_stays(self):
        for points, ties in WEBS:
            kept = list(ties)
            for tie in kept:
                cut(points, ties, tie)
                merged(points, ties, tie)
                self.assertEqual(ties, kept)

    def test_what_is_told_is_the_askers_own(self):
        for act in (cut, merged):
            ties = [(0, 1), (1, 2), (2, 3)]
            first = act(4, ties, (2, 3))
            self.assertEqual(first, [(0, 1), (1, 2)])
            first.append("changed")
            self.assertEqual(ties, [(0, 1), (1, 2), (2, 3)])
            second = act(4, ties, (2, 3))
            self.assertEqual(second, [(0, 1), (1, 2)])
            ties.clear()
            self.assertEqual(second, [(0, 1), (1, 2)])


class TestPieces(unittest.TestCase):
    def test_no_point(self):
        self.assertEqual(pieces(0, []), [])

    def test_points_without_ties(self):
        for points in range(8):
            self.assertEqual(pieces(points, []), [[point] for point in range(points)])

    def test_one_piece(self):
        self.assertEqual(pieces(7, [(k, k + 1) for k in range(6)]), [[0, 1, 2, 3, 4, 5, 6]])
        self.assertEqual(pieces(4, [(0, 3), (1, 2), (2, 3)]), [[0, 1, 2, 3]])

    def test_several_pieces(self):
        self.assertEqual(pieces(6, [(0, 4), (1, 3), (3, 5)]), [[0, 4], [1, 3, 5], [2]])
        self.assertEqual(pieces(7, [(1, 6), (2, 5), (3, 4)]), [[0], [1, 6], [2, 5], [3, 4]])

    def test_pieces_joined_by_a_late_tie(self):
        self.assertEqual(pieces(7, [(0, 5), (1, 2), (3, 6), (5, 6)]), [[0, 3, 5, 6], [1, 2], [4]])

    def test_many_webs(self):
        for points, ties in webs_up_to(5) + GREAT_WEBS:
            told = pieces(points, ties)
            self.assertEqual(told, pieces_by_the_document(points, ties), (points, ties))

    def test_the_list_stays(self):
        for points, ties in WEBS:
            kept = list(ties)
            pieces(points, ties)
            self.assertEqual(ties, kept)

    def test_lists_told_may_be_changed(self):
        ties = [(0, 2)]
        first = pieces(5, ties)
        for place in range(len(first)):
            kept = [list(piece) for piece in first]
            first[place].append("changed")
            kept[place].append("changed")
            self.assertEqual(first, kept)
        first.clear()
        self.assertEqual(ties, [(0, 2)])
        second = pieces(5, ties)
        self.assertEqual(second, [[0, 2], [1], [3], [4]])
        ties.clear()
        self.assertEqual(second, [[0, 2], [1], [3], [4]])

    def test_refuses_what_is_no_web(self):
        for points, ties in NO_WEBS:
            kept = list(ties)
            with self.assertRaises(NoWeb, msg=(points, ties)):
                pieces(points, ties)
            self.assertEqual(ties, kept)


class TestBeside(WebCase):
    def test_no_point_on_either_side(self):
        self.assertEqual(beside(0, [], 0, []), [])
        for points, ties in WEBS:
            self.assertEqual(beside(points, ties, 0, []), ties)
            self.assertEqual(beside(0, [], points, ties), ties)

    def test_points_without_ties(self):
        self.assertEqual(beside(3, [], 2, [(0, 1)]), [(3, 4)])
        self.assertEqual(beside(3, [(0, 1)], 2, []), [(0, 1)])

    def test_ties_on_both_sides(self):
        self.assertEqual(beside(3, [(0, 2), (1, 2)], 4, [(0, 1), (1, 3)]), [(0, 2), (1, 2), (3, 4), (4, 6)])

    def test_many_webs(self):
        small = webs_up_to(3)
        for points, ties in small + WEBS[-20:]:
            for more, others in small:
                if points + more > 7 or len(ties) + len(others) > 12:
                    continue
                told = beside(points, ties, more, others)
                self.assertEqual(told[:len(ties)], ties)
                self.assertEqual([(a - points, b - points) for a, b in told[len(ties):]], others)
                self.assert_ties(told, points + more)

    def test_nothing_is_refused_for_being_much_together(self):
        # The interface says that what is handed in keeps to the bounds; it names no refusal for more.
        self.assertEqual(beside(5, [(0, 4)], 4, [(0, 3)]), [(0, 4), (5, 8)])
        twelve = THIRTEEN_TIES[:12]
        self.assertEqual(beside(7, twelve, 7, [(0, 1)]), twelve + [(7, 8)])

    def test_refuses_where_one_or_both_are_no_web(self):
        for points, ties in NO_WEBS:
            kept = list(ties)
            for call in (
                (points, ties, 2, [(0, 1)]),
                (points, ties, 0, []),
                (2, [(0, 1)], points, ties),
                (0, [], points, ties),
                (points, ties, points, ties),
                (points, ties, 2, [(1, 0)]),
            ):
                with self.assertRaises(NoWeb, msg=call):
                    beside(*call)
            self.assertEqual(ties, kept)

    def test_two_lists_that_only_together_look_like_a_web(self):
        with self.assertRaises(NoWeb):
            beside(2, [(0, 3)], 2, [])
        with self.assertRaises(NoWeb):
            beside(2, [], 2, [(-1, 1)])

    def test_the_lists_stay_and_what_is_told_is_the_askers_own(self):
        for points, ties, more, others in (
            (2, [(0, 1)], 2, [(0, 1)]),
            (2, [(0, 1)], 0, []),
            (0, [], 2, [(0, 1)]),
            (2, [(0, 1)], 3, []),
        ):
            kept = (list(ties), list(others))
            first = beside(points, ties, more, others)
            wanted = list(first)
            first.append("changed")
            self.assertEqual((ties, others), kept)
            second = beside(points, ties, more, others)
            self.assertEqual(second, wanted)
            ties.clear()
            others.clear()
            self.assertEqual(second, wanted)

    def test_one_list_handed_in_twice(self):
        ties = [(0, 1), (0, 2)]
        self.assertEqual(beside(3, ties, 3, ties), [(0, 1), (0, 2), (3, 4), (3, 5)])
        self.assertEqual(ties, [(0, 1), (0, 2)])


if __name__ == "__main__":
    unittest.main()
