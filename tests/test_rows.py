import sys
import unittest

from dyeweb.errors import NoWeb
from dyeweb.rows import row, worth
from dyeweb.webs import beside, cut, merged

from sample_webs import GREAT_WEBS, NO_WEBS, all_webs, dyeings_by_hand, webs_up_to

WEBS = webs_up_to(4) + GREAT_WEBS


def worth_by_the_document(numbers, q):
    together = 0
    for place, number in enumerate(numbers):
        for times in range(place):
            number = number * q
        together = together + number
    return together


def dyeings_gone_through(points, ties, many):
    return len(list(dyeings_by_hand(points, ties, many)))


def product_of(one, other):
    told = [0] * (len(one) + len(other) - 1)
    for i, x in enumerate(one):
        for j, y in enumerate(other):
            told[i + j] += x * y
    return told


class TestRow(unittest.TestCase):
    def test_known_rows(self):
        self.assertEqual(row(2, [(0, 1)]), [0, -1, 1])
        self.assertEqual(row(3, [(0, 1), (1, 2)]), [0, 1, -2, 1])
        self.assertEqual(row(3, [(0, 1), (0, 2), (1, 2)]), [0, 2, -3, 1])
        self.assertEqual(row(4, [(0, 1), (0, 3), (1, 2), (2, 3)]), [0, -3, 6, -4, 1])

    def test_as_many_whole_numbers_as_points_and_one_more(self):
        for points, ties in WEBS:
            told = row(points, ties)
            self.assertIs(type(told), list)
            self.assertEqual(len(told), points + 1)
            self.assertEqual({type(number) for number in told}, {int})

    def test_no_tie(self):
        for points in range(8):
            self.assertEqual(row(points, []), [0] * points + [1])

    def test_worth_is_how_many_dyeings_for_up_to_four_points(self):
        for points, ties in webs_up_to(4):
            told = row(points, ties)
            for many in range(7):
                self.assertEqual(worth_by_the_document(told, many), dyeings_gone_through(points, ties, many))
                self.assertEqual(worth(told, many), dyeings_gone_through(points, ties, many))

    def test_worth_is_how_many_dyeings_for_five_points(self):
        for points, ties in all_webs(5):
            told = row(points, ties)
            for many in range(6):
                self.assertEqual(worth(told, many), dyeings_gone_through(points, ties, many), (ties, many))

    def test_worth_is_how_many_dyeings_for_great_webs(self):
        for points, ties in GREAT_WEBS:
            told = row(points, ties)
            for many in range(5):
                self.assertEqual(worth(told, many), dyeings_gone_through(points, ties, many), (ties, many))

    def test_cut_less_merged_for_each_tie(self):
        for points, ties in WEBS:
            for tie in ties:
                without = row(points, cut(points, ties, tie))
                together = row(points - 1, merged(points, ties, tie)) + [0]
                self.assertEqual(row(points, ties), [x - y for x, y in zip(without, together)])

    def test_the_product_for_two_webs_side_by_side(self):
        for points, ties in webs_up_to(4):
            for more, others in webs_up_to(3):
                told = row(points + more, beside(points, ties, more, others))
                parts = (row(points, ties), row(more, others))
                self.assertEqual(told, product_of(parts[0], parts[1]))
                for q in (-3, 0, 4):
                    self.assertEqual(worth(told, q), worth(parts[0], q) * worth(parts[1], q))

    def test_seven_points_and_twelve_ties(self):
        threes_and_fours = [(a, b) for a in range(3) for b in range(3, 7)]
        self.assertEqual(row(7, threes_and_fours), [0, 115, -319, 351, -202, 66, -12, 1])
        told = row(7, [(0, 1), (0, 2), (0, 3), (0, 4), (1, 2), (1, 3), (1, 4), (2, 3), (2, 4), (3, 4), (4, 5), (5, 6)])
        five_tied = product_of(product_of(product_of([0, 1], [-1, 1]), product_of([-2, 1], [-3, 1])), [-4, 1])
        self.assertEqual(told, product_of(five_tied, product_of([-1, 1], [-1, 1])))

    def test_no_deep_recursion(self):
        points, ties = GREAT_WEBS[0]
        wanted = row(points, ties)
        depth = 0
        frame = sys._getframe()
        while frame is not None:
            depth += 1
            frame = frame.f_back
        kept = sys.getrecursionlimit()
        sys.setrecursionlimit(depth + 100)
        try:
            told = row(points, ties)
        finally:
            sys.setrecursionlimit(kept)
        self.assertEqual(told, wanted)

    def test_the_row_told_may_be_changed(self):
        for points, ties in [(0, []), (3, []), (3, [(0, 1), (1, 2)])] + GREAT_WEBS:
            kept = list(ties)
            first = row(points, ties)
            wanted = list(first)
            first[0] = 99
            first.append("changed")
            self.assertEqual(ties, kept)
            second = row(points, ties)
            self.assertEqual(second, wanted)
            handed = list(ties)
            third = row(points, handed)
            handed.clear()
            self.assertEqual(third, wanted)
            self.assertEqual(row(points, handed), [0] * points + [1])

    def test_refuses_what_is_no_web(self):
        for points, ties in NO_WEBS:
            kept = list(ties)
            with self.assertRaises(NoWeb, msg=(points, ties)):
                row(points, ties)
            self.assertEqual(ties, kept)


class TestWorth(unittest.TestCase):
    def many_figured(self, length, seed):
        return [(-1) ** (place * seed + place // 2) * (seed + 3) ** (20 + 9 * place) for place in range(length)]

    def test_the_empty_list(self):
        for q in range(-100, 101):
            self.assertEqual(worth([], q), 0)

    def test_at_nought_it_is_the_first_number(self):
        self.assertEqual(worth([5], 0), 5)
        self.assertEqual(worth([-7, 3, 2], 0), -7)
        self.assertEqual(worth([0, 3, 2], 0), 0)

    def test_plain_rows(self):
        self.assertEqual(worth([0, 2, -3, 1], 3), 6)
        self.assertEqual(worth([0, 2, -3, 1], -1), -6)
        self.assertEqual(worth([1, 2, 3], 10), 321)
        self.assertEqual(worth([1, 2, 3], -10), 281)
        self.assertEqual(worth([4], -100), 4)

    def test_lists_of_numbers_of_many_figures(self):
        for length in range(9):
            for seed in range(1, 5):
                numbers = self.many_figured(length, seed)
                kept = list(numbers)
                for q in range(-100, 101):
                    told = worth(numbers, q)
                    self.assertIs(type(told), int)
                    self.assertEqual(told, worth_by_the_document(kept, q), (numbers, q))
                self.assertEqual(numbers, kept)

    def test_each_place_by_itself(self):
        for place in range(8):
            for number in (1, -1, 10 ** 40, -(10 ** 40)):
                numbers = [0] * 8
                numbers[place] = number
                for q in range(-100, 101):
                    self.assertEqual(worth(numbers, q), number * q ** place)

    def test_nothing_is_refused_for_a_longer_list(self):
        self.assertEqual(worth([1] * 12, 2), 4095)
        self.assertEqual(worth([0, 1], 1000), 1000)


if __name__ == "__main__":
    unittest.main()
