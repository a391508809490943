"""[3] sets by stretches, and [2] as far as it speaks of them."""

import itertools
import unittest

from tests.helper import BIG, holds_to_point_two, is_set, members, stretches_of, subsets
from tinrecall.stretches import both_of, count_of, either, is_in, less_in, nth_of, set_of, without

SOME = [(0, 3), (5, 5), (9, 20)]
GREAT = [(5, 5), (BIG, BIG + 9), (BIG + 11, 3 * BIG)]


class SetOfTest(unittest.TestCase):
    def test_told(self):
        cases = [
            ([], []),
            ([(3, 3)], [(3, 3)]),
            ([(0, 0)], [(0, 0)]),
            ([(7, 9), (1, 2)], [(1, 2), (7, 9)]),
            ([(1, 4), (1, 4), (1, 4)], [(1, 4)]),
            ([(1, 9), (3, 5)], [(1, 9)]),
            ([(3, 5), (1, 9)], [(1, 9)]),
            ([(1, 9), (2, 3), (8, 12)], [(1, 12)]),
            ([(1, 4), (5, 6)], [(1, 6)]),
            ([(5, 6), (1, 4)], [(1, 6)]),
            ([(1, 4), (6, 6)], [(1, 4), (6, 6)]),
            ([(4, 3)], []),
            ([(9, 0), (2, 2), (5, 1)], [(2, 2)]),
            ([(1, 2), (4, 3), (4, 5)], [(1, 2), (4, 5)]),
            ([(BIG, 2 * BIG), (0, 1), (2 * BIG + 1, 3 * BIG)], [(0, 1), (BIG, 3 * BIG)]),
            ([(BIG + 2, BIG + 2), (BIG, BIG)], [(BIG, BIG), (BIG + 2, BIG + 2)]),
            ([(2 * BIG, BIG)], []),
        ]
        for pairs, told in cases:
            with self.subTest(pairs):
                self.assertEqual(holds_to_point_two(self, set_of, pairs), told)

    def test_against_numbers_one_by_one(self):
        every = list(itertools.product(range(5), range(5)))
        for pairs in itertools.product(every, repeat=3):
            told = set_of(list(pairs))
            self.assertTrue(is_set(told))
            self.assertEqual(told, stretches_of(members(pairs)))

    def test_any_order(self):
        pairs = [(8, 9), (0, 1), (3, 2), (3, 6), (2, 2), (BIG, BIG)]
        for order in itertools.permutations(pairs):
            self.assertEqual(set_of(list(order)), [(0, 6), (8, 9), (BIG, BIG)])

    def test_forty_pairs(self):
        apart = [(BIG * k, BIG * k + 5) for k in range(40)]
        self.assertEqual(set_of(apart[::-1]), apart)
        touching = [(10 * k, 10 * k + 9) for k in range(40)]
        self.assertEqual(set_of(touching[::-1]), [(0, 399)])


class TwoSetsTest(unittest.TestCase):
    def test_against_numbers_one_by_one(self):
        sets = [(set(numbers), stretches_of(numbers)) for numbers in subsets(7)]
        for (few, one), (more, other) in itertools.product(sets, repeat=2):
            self.assertEqual(either(one, other), stretches_of(few | more))
            self.assertEqual(both_of(one, other), stretches_of(few & more))
            self.assertEqual(without(one, other), stretches_of(few - more))

    def test_of_a_set_with_itself_and_with_nothing(self):
        for some in ([], SOME, GREAT):
            with self.subTest(some):
                self.assertEqual(holds_to_point_two(self, either, some, some), some)
                self.assertEqual(holds_to_point_two(self, both_of, some, some), some)
                self.assertEqual(holds_to_point_two(self, without, some, some), [])
                self.assertEqual(holds_to_point_two(self, either, some, []), some)
                self.assertEqual(holds_to_point_two(self, either, [], some), some)
                self.assertEqual(holds_to_point_two(self, both_of, some, []), [])
                self.assertEqual(holds_to_point_two(self, both_of, [], some), [])
                self.assertEqual(holds_to_point_two(self, without, some, []), some)
                self.assertEqual(holds_to_point_two(self, without, [], some), [])

    def test_great_numbers(self):
        other = [(0, 5), (BIG + 9, BIG + 11), (2 * BIG, 4 * BIG)]
        self.assertEqual(holds_to_point_two(self, either, GREAT, other), [(0, 5), (BIG, 4 * BIG)])
        self.assertEqual(
            holds_to_point_two(self, both_of, GREAT, other),
            [(5, 5), (BIG + 9, BIG + 9), (BIG + 11, BIG + 11), (2 * BIG, 3 * BIG)])
        self.assertEqual(
            holds_to_point_two(self, without, GREAT, other), [(BIG, BIG + 8), (BIG + 12, 2 * BIG - 1)])
        self.assertEqual(
            holds_to_point_two(self, without, other, GREAT), [(0, 4), (BIG + 10, BIG + 10), (3 * BIG + 1, 4 * BIG)])

    def test_told_sets_handed_in_again(self):
        comb = set_of([(4 * k, 4 * k + 1) for k in range(24)])
        holes = without([(0, 95)], comb)
        self.assertEqual(holes, [(4 * k + 2, 4 * k + 3) for k in range(24)])
        self.assertEqual(either(comb, holes), [(0, 95)])
        self.assertEqual(both_of(comb, holes), [])
        self.assertEqual(without(either(comb, holes), holes), comb)


class AskedOfASetTest(unittest.TestCase):
    def test_against_numbers_one_by_one(self):
        for numbers in subsets(8):
            some = stretches_of(numbers)
            self.assertEqual(count_of(some), len(numbers))
            for k in range(10):
                self.assertIs(is_in(some, k), k in numbers)
                self.assertEqual(less_in(some, k), len([number for number in numbers if number < k]))
                self.assertEqual(nth_of(some, k), numbers[k] if k < len(numbers) else None)

    def test_count_of(self):
        self.assertEqual(count_of([]), 0)
        self.assertEqual(count_of(SOME), 17)
        self.assertEqual(count_of(tuple(SOME)), 17)
        self.assertEqual(count_of(GREAT), 1 + 10 + 2 * BIG - 10)

    def test_nth_of(self):
        cases = [(SOME, 0, 0), (SOME, 3, 3), (SOME, 4, 5), (SOME, 5, 9), (SOME, 16, 20), (SOME, 17, None),
                 (SOME, BIG, None), ([], 0, None), (GREAT, 0, 5), (GREAT, 1, BIG), (GREAT, 10, BIG + 9),
                 (GREAT, 11, BIG + 11), (GREAT, 2 * BIG, 3 * BIG), (GREAT, 2 * BIG + 1, None)]
        for some, n, told in cases:
            with self.subTest((some, n)):
                self.assertEqual(holds_to_point_two(self, nth_of, some, n), told)

    def test_is_in_at_beside_and_between_the_ends(self):
        cases = [(SOME, [0, 1, 3, 5, 9, 15, 20], [4, 6, 7, 8, 21, BIG]), ([], [], [0, 1, BIG]),
                 (GREAT, [5, BIG, BIG + 5, BIG + 9, BIG + 11, 2 * BIG, 3 * BIG],
                  [0, 4, 6, BIG - 1, BIG + 10, 3 * BIG + 1])]
        for some, inside, outside in cases:
            for number in inside:
                self.assertIs(holds_to_point_two(self, is_in, some, number), True)
            for number in outside:
                self.assertIs(holds_to_point_two(self, is_in, some, number), False)

    def test_less_in_at_beside_and_between_the_ends(self):
        cases = [(SOME, 0, 0), (SOME, 1, 1), (SOME, 3, 3), (SOME, 4, 4), (SOME, 5, 4), (SOME, 6, 5), (SOME, 8, 5),
                 (SOME, 9, 5), (SOME, 10, 6), (SOME, 20, 16), (SOME, 21, 17), (SOME, BIG, 17), ([], 0, 0),
                 ([], BIG, 0), (GREAT, 5, 0), (GREAT, 6, 1), (GREAT, BIG, 1), (GREAT, BIG + 9, 10),
                 (GREAT, BIG + 10, 11), (GREAT, BIG + 11, 11), (GREAT, 3 * BIG, 2 * BIG), (GREAT, 4 * BIG, 2 * BIG + 1)]
        for some, number, told in cases:
            with self.subTest((some, number)):
                self.assertEqual(holds_to_point_two(self, less_in, some, number), told)


class ChangedInPlaceTest(unittest.TestCase):
    def test_a_changed_list_is_answered_as_it_is_then(self):
        pairs = [(1, 2)]
        self.assertEqual(set_of(pairs), [(1, 2)])
        pairs.append((3, 4))
        self.assertEqual(set_of(pairs), [(1, 4)])
        pairs.clear()
        self.assertEqual(set_of(pairs), [])

    def test_a_changed_set_is_answered_as_it_is_then(self):
        one, other = [(0, 9)], [(5, 5)]
        asks = [lambda: either(one, other), lambda: both_of(one, other), lambda: without(one, other),
                lambda: count_of(one), lambda: nth_of(one, 7), lambda: is_in(one, 12), lambda: less_in(one, 13)]
        first = [ask() for ask in asks]
        self.assertEqual(first, [[(0, 9)], [(5, 5)], [(0, 4), (6, 9)], 10, 7, False, 10])
        one[0] = (8, 12)
        other.append((12, 20))
        then = [ask() for ask in asks]
        self.assertEqual(then, [[(5, 5), (8, 20)], [(12, 12)], [(8, 11)], 5, None, True, 5])
        self.assertEqual(first[0], [(0, 9)])


if __name__ == "__main__":
    unittest.main()
