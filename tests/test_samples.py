"""[11] and [13] the fewest samples."""

import itertools
import random
import unittest

from tests.helper import BIG, are_rising_numbers, fewest_tried, holds_to_point_two, members, small_runs, subsets
from tinrecall.samples import first_missed, least_samples, samples_needed


def numbers_left(run, gone):
    return members([run]) - members(gone)


class LeastSamplesTest(unittest.TestCase):
    def assert_told(self, runs, gone, many):
        """Holds what is told against [11], for small numbers, and tells it."""
        told = holds_to_point_two(self, least_samples, runs, gone)
        self.assertIs(type(told), tuple)
        word, numbers, apart = told
        self.assertEqual(word, "samples")
        self.assertEqual([type(numbers), type(apart)], [list, list])
        self.assertTrue(are_rising_numbers(numbers) and are_rising_numbers(apart))
        self.assertEqual((len(numbers), len(apart)), (many, many), (runs, gone, told))
        left = [numbers_left(run, gone) for run in runs]
        self.assertFalse(members(gone) & set(numbers))
        self.assertTrue(all(some & set(numbers) for some in left))
        for one, other in itertools.combinations(apart, 2):
            self.assertFalse(left[one] & left[other])
        return told

    def test_told(self):
        cases = [
            ([(0, 0)], [], 1), ([(3, 9)], [], 1), ([(3, 9), (3, 9)], [], 1), ([(3, 9), (3, 9), (3, 9)], [(3, 8)], 1),
            ([(0, 9), (3, 4)], [], 1), ([(3, 4), (0, 9)], [], 1), ([(0, 9), (3, 4), (6, 7)], [], 2),
            ([(0, 9), (9, 20)], [], 1), ([(0, 9), (10, 20)], [], 2), ([(10, 20), (0, 9)], [], 2),
            ([(0, 4), (5, 9), (4, 5)], [], 2), ([(0, 4), (4, 8), (8, 12)], [], 2),
            ([(0, 3), (2, 5), (4, 7), (6, 9)], [], 2),
            # Gone at the ends, in the middle, over what two runs have in both.
            ([(0, 9), (9, 20)], [(9, 9)], 2), ([(0, 9), (8, 20)], [(9, 9)], 1), ([(0, 9), (8, 20)], [(8, 9)], 2),
            ([(0, 9), (8, 20)], [(0, 7)], 1), ([(0, 9), (8, 20)], [(0, 7), (9, 20)], 1),
            ([(5, 9)], [(0, 8), (10, 12)], 1),
            ([(5, 9), (5, 9)], [(6, 8)], 1), ([(0, 5), (4, 9)], [(0, 3), (6, 9)], 1), ([(0, 5), (4, 9)], [(4, 5)], 2),
            ([(0, 6), (2, 4), (3, 9)], [(3, 4)], 2), ([(0, 6), (2, 4), (3, 9)], [(2, 3)], 1),
            ([(0, 2), (4, 6), (0, 6)], [(3, 3)], 2), ([(0, 2), (4, 6), (2, 4)], [(3, 3)], 2),
            ([(0, 2), (4, 6), (2, 4)], [(2, 3)], 2),
        ]
        for runs, gone, many in cases:
            with self.subTest((runs, gone)):
                self.assert_told(runs, gone, many)
                self.assert_told(runs[::-1], gone, many)
                self.assert_told(runs + runs, gone, many)

    def test_blind(self):
        cases = [
            ([(3, 9)], [(3, 9)], 0), ([(3, 9)], [(0, 20)], 0), ([(3, 3)], [(3, 3)], 0),
            ([(0, 9), (3, 4)], [(3, 4)], 1), ([(0, 9), (3, 4), (4, 4)], [(3, 5)], 1),
            ([(4, 4), (0, 9), (3, 4)], [(3, 5)], 0),
            ([(0, 9), (20, 30), (5, 6), (20, 20), (5, 5)], [(5, 6), (20, 29)], 2),
            ([(0, 0), (1, BIG), (2, 2)], [(1, BIG)], 1), ([(0, BIG), (BIG, BIG)], [(BIG, BIG)], 1),
        ]
        for runs, gone, k in cases:
            with self.subTest((runs, gone)):
                self.assertEqual(holds_to_point_two(self, least_samples, runs, gone), ("blind", k))

    def test_side_by_side_gone_is_no_blindness(self):
        # What is gone on both sides of one number leaves it.
        self.assertEqual(least_samples([(3, 5)], [(0, 3), (5, 9)]), ("samples", [4], [0]))
        self.assertEqual(least_samples([(3, 5)], [(4, 9)]), ("samples", [3], [0]))

    def test_against_all_sets_of_numbers(self):
        rng = random.Random(16)
        blinds = 0
        for _ in range(1500):
            runs, gone = small_runs(rng)
            left = [numbers_left(run, gone) for run in runs]
            if set() in left:
                blinds += 1
                self.assertEqual(least_samples(runs, gone), ("blind", left.index(set())))
            else:
                self.assert_told(runs, gone, fewest_tried(runs, gone))
        self.assertGreater(blinds, 100)

    def test_great_numbers(self):
        runs = [(BIG * k, BIG * k + BIG) for k in range(5)]
        self.assertEqual(holds_to_point_two(self, least_samples, runs, [])[0], "samples")
        word, numbers, apart = least_samples(runs, [])
        self.assertEqual((len(numbers), len(apart)), (3, 3))
        self.assertTrue(all(any(first <= number <= last for number in numbers) for first, last in runs))
        word, numbers, apart = least_samples(runs, [(BIG, BIG), (3 * BIG, 3 * BIG)])
        self.assertEqual((len(numbers), len(apart)), (3, 3))
        word, numbers, apart = least_samples(runs, [(BIG * k, BIG * k) for k in range(6)])
        self.assertEqual((len(numbers), apart), (5, [0, 1, 2, 3, 4]))
        self.assertEqual(least_samples([(0, BIG * BIG)], [(1, BIG * BIG)]), ("samples", [0], [0]))
        told = least_samples([(0, BIG * BIG)], [(0, BIG), (BIG + 2, 2 * BIG * BIG)])
        self.assertEqual(told, ("samples", [BIG + 1], [0]))

    def test_many_runs(self):
        rng = random.Random(17)
        for many in (24, 100):
            firsts = [rng.randint(0, 40 * BIG) for _ in range(many)]
            runs = [(first, first + rng.randint(0, 3 * BIG)) for first in firsts]
            gone = [(k * 2 * BIG, k * 2 * BIG + BIG // 2) for k in range(24)]
            told = least_samples(runs, gone)
            if told[0] == "blind":
                blind = runs[told[1]]
                self.assertTrue(any(first <= blind[0] and blind[1] <= last for first, last in gone))
            runs = [run for run in runs if not any(first <= run[0] and run[1] <= last for first, last in gone)]
            word, numbers, apart = least_samples(runs, gone)
            self.assertEqual((word, len(numbers)), ("samples", len(apart)))
            self.assertTrue(are_rising_numbers(numbers) and are_rising_numbers(apart))
            for first, last in runs:
                self.assertTrue(any(first <= number <= last for number in numbers))
            for first, last in gone:
                self.assertFalse(any(first <= number <= last for number in numbers))
            for one, other in itertools.combinations(apart, 2):
                first, last = max(runs[one][0], runs[other][0]), min(runs[one][1], runs[other][1])
                self.assertTrue(first > last or any(begin <= first and last <= end for begin, end in gone))

    def test_changed_lists_are_answered_as_they_are_then(self):
        runs, gone = [(0, 4)], []
        self.assertEqual(least_samples(runs, gone)[2], [0])
        runs.append((5, 9))
        self.assertEqual(least_samples(runs, gone)[2], [0, 1])
        gone.append((5, 9))
        self.assertEqual(least_samples(runs, gone), ("blind", 1))
        gone[0] = (5, 8)
        self.assertEqual(least_samples(runs, gone)[1][1], 9)
        runs[0] = (9, 9)
        self.assertEqual(least_samples(runs, gone)[1], [9])


class SamplesNeededTest(unittest.TestCase):
    def test_told(self):
        cases = [
            (0, 1, 0), (0, 5, 0), (0, BIG, 0), (1, 1, 1), (1, 2, 0), (4, 5, 0), (5, 5, 1), (6, 5, 1), (9, 5, 1),
            (10, 5, 2), (7, 1, 7), (BIG, 1, BIG), (BIG, BIG, 1), (BIG - 1, BIG, 0), (2 * BIG, BIG, 2),
            (2 * BIG - 1, BIG, 1),
            (BIG * BIG, BIG, BIG), (BIG * BIG - 1, BIG, BIG - 1), (10 * BIG + 9, 10, BIG),
        ]
        for many, width, told in cases:
            with self.subTest((many, width)):
                self.assertEqual(holds_to_point_two(self, samples_needed, many, width), told)

    def test_against_trying_all(self):
        for many in range(10):
            for width in range(1, many + 3):
                seen = [len(some) for some in subsets(many)
                        if all(set(some) & set(range(k, k + width)) for k in range(many - width + 1))]
                self.assertEqual(samples_needed(many, width), min(seen), (many, width))


class FirstMissedTest(unittest.TestCase):
    def test_told(self):
        cases = [
            (0, 1, [], None), (0, 1, [0], None), (0, 5, [7], None), (4, 5, [], None), (4, 5, [9], None), (5, 5, [], 0),
            (5, 5, [4], None), (5, 5, [0], None), (5, 5, [5], 0), (5, 5, [BIG], 0), (6, 5, [5], 0), (6, 5, [0], 1),
            (6, 5, [1], None), (10, 1, [], 0), (3, 1, [2, 0, 1], None), (3, 1, [2, 0], 1), (3, 1, [1, 0, 1, 0], 2),
            (3, 1, [0, 1, 3, 4], 2), (10, 3, [2, 5, 8], None), (10, 3, [8, 2, 5, 5], None), (10, 3, [5, 2], 6),
            (10, 3, [6, 2], 3), (11, 3, [8, 5, 2], None), (12, 3, [8, 5, 2], 9), (12, 3, [12, 8, 5, 2], 9),
            (12, 3, [11, 8, 5, 2], None), (12, 3, [3, 3, 3], 0), (10, 4, [3, 3, 3, 7], None), (10, 4, [2, 7], 3),
            (BIG, 1, [0, 1, 2], 3), (BIG, BIG, [], 0), (BIG, BIG, [BIG], 0), (BIG, BIG, [BIG - 1], None),
            (BIG - 1, BIG, [], None), (3 * BIG, BIG, [2 * BIG, BIG - 1], BIG),
            (3 * BIG, BIG, [2 * BIG - 1, BIG - 1], 2 * BIG),
            (3 * BIG - 1, BIG, [2 * BIG - 1, BIG - 1], None), (3 * BIG, BIG, [BIG], 0), (BIG * BIG, 2, [1, 3, 1], 4),
        ]
        for many, width, samples, told in cases:
            with self.subTest((many, width, samples)):
                self.assertEqual(holds_to_point_two(self, first_missed, many, width, samples), told)

    def test_against_trying_all(self):
        rng = random.Random(18)
        for _ in range(3000):
            many, width = rng.randint(0, 12), rng.randint(1, 7)
            samples = [rng.randint(0, 15) for _ in range(rng.randint(0, 6))]
            missed = [k for k in range(many - width + 1) if not set(range(k, k + width)) & set(samples)]
            self.assertEqual(first_missed(many, width, samples), missed[0] if missed else None, (many, width, samples))

    def test_as_many_as_needed(self):
        for many, width in itertools.product(range(20), range(1, 9)):
            samples = [width * (k + 1) - 1 for k in range(samples_needed(many, width))]
            self.assertIsNone(first_missed(many, width, samples))
            if samples:
                self.assertIsNotNone(first_missed(many, width, samples[1:]))
                self.assertIsNotNone(first_missed(many, width, samples[:-1]))

    def test_twenty_four_samples(self):
        samples = [BIG * (24 - k) - 1 for k in range(24)]
        self.assertIsNone(first_missed(25 * BIG - 1, BIG, samples))
        self.assertEqual(first_missed(25 * BIG, BIG, samples), 24 * BIG)
        self.assertEqual(first_missed(25 * BIG, BIG, samples[:7] + samples[8:]), BIG * 16)

    def test_changed_lists_are_answered_as_they_are_then(self):
        samples = [2]
        self.assertEqual(first_missed(6, 3, samples), 3)
        samples.append(5)
        self.assertIsNone(first_missed(6, 3, samples))
        samples[0] = 9
        self.assertEqual(first_missed(6, 3, samples), 0)


if __name__ == "__main__":
    unittest.main()
