"""[12] the places of least cost."""

import itertools
import random
import unittest

from tests.helper import BIG, are_rising_numbers, cost_tried, holds_to_point_two, small_prices
from tinrecall.costs import least_cost
from tinrecall.samplecheck import shows_cost


class LeastCostTest(unittest.TestCase):
    def assert_told(self, prices, runs, least):
        """Holds what is told against [12], and tells it."""
        told = holds_to_point_two(self, least_cost, prices, runs)
        self.assertEqual([type(told), *map(type, told)], [tuple, int, list, list])
        cost, places, dues = told
        self.assertEqual(cost, least, (prices, runs, told))
        self.assertTrue(are_rising_numbers(places) and places[-1] < len(prices))
        self.assertEqual(sum(prices[place] for place in places), cost)
        self.assertTrue(all(any(first <= place <= last for place in places) for first, last in runs))
        self.assertEqual(len(dues), len(runs))
        self.assertTrue(all(type(due) is int and due >= 0 for due in dues))
        for place, price in enumerate(prices):
            here = [due for (first, last), due in zip(runs, dues) if place in range(first, last + 1)]
            self.assertLessEqual(sum(here), price)
        self.assertEqual(sum(dues), cost)
        self.assertIs(shows_cost(prices, runs, told), True)
        return told

    def test_told(self):
        cases = [
            # One price, prices of 0.
            ([7], [(0, 0)], 7), ([0], [(0, 0)], 0), ([BIG], [(0, 0), (0, 0)], BIG), ([0, 0, 0], [(0, 2), (1, 1)], 0),
            ([0, 5], [(0, 1)], 0), ([0, 5], [(0, 1), (1, 1)], 5), ([5, 0, 5], [(0, 1), (1, 2)], 0),
            ([3, 0], [(0, 0)], 3),
            # Prices alike.
            ([4, 4, 4], [(0, 2)], 4), ([4, 4, 4], [(0, 1), (1, 2)], 4), ([4, 4, 4], [(0, 0), (1, 2)], 8),
            ([4, 4, 4], [(0, 0), (1, 1), (2, 2)], 12), ([4, 4, 4], [(0, 0), (1, 1), (2, 2), (0, 2)], 12),
            # Runs alike, within one another, side by side, of one place, of all places.
            ([4, 3, 9], [(0, 1), (0, 1)], 3), ([4, 3, 9], [(0, 2), (1, 1)], 3), ([4, 3, 9], [(0, 2), (2, 2)], 9),
            ([4, 3, 9], [(1, 1)], 3), ([4, 3, 9], [(0, 2)], 3), ([9, 3, 4], [(0, 2), (2, 2), (0, 1)], 7),
            ([5, 1, 1, 5], [(0, 1), (2, 3)], 2), ([5, 1, 1, 5], [(0, 0), (1, 2), (3, 3)], 11),
            # One dear place for several runs, or several cheap ones.
            ([1, 3, 1], [(0, 1), (1, 2)], 2), ([2, 3, 2], [(0, 1), (1, 2)], 3), ([2, 4, 2], [(0, 1), (1, 2)], 4),
            ([1, 5, 1, 1], [(0, 1), (1, 2), (1, 3)], 2), ([3, 5, 3, 3], [(0, 1), (1, 2), (1, 3)], 5),
            ([2, 3, 2, 3, 2], [(0, 1), (1, 2), (2, 3), (3, 4)], 6), ([9, 2, 9, 2, 9], [(0, 2), (1, 3), (2, 4)], 4),
            ([5, 2, 4, 4, 2, 5], [(0, 2), (1, 3), (2, 4), (3, 5)], 4), ([9, 9, 1, 9], [(0, 1), (1, 2), (2, 3)], 10),
            ([BIG, 3 * BIG, BIG], [(0, 1), (1, 2)], 2 * BIG),
            ([BIG + 1, 2 * BIG + 1, BIG + 1], [(0, 1), (1, 2)], 2 * BIG + 1),
        ]
        for prices, runs, least in cases:
            with self.subTest((prices, runs)):
                self.assert_told(prices, runs, least)

    def test_against_all_sets_of_places(self):
        rng = random.Random(19)
        for _ in range(2000):
            prices, runs = small_prices(rng)
            self.assert_told(prices, runs, cost_tried(prices, runs))

    def test_all_runs_of_few_places(self):
        every = [(first, last) for first in range(4) for last in range(first, 4)]
        for prices in ([1, 1, 1, 1], [2, 1, 3, 1], [0, 2, 0, 3], [5, 3, 4, 5]):
            for many in (1, 2, 3):
                for runs in itertools.combinations(every, many):
                    told = least_cost(prices, runs)
                    self.assertEqual(told[0], cost_tried(prices, runs))
                    self.assertIs(shows_cost(prices, runs, told), True)

    def test_forty_prices_and_twenty_four_runs(self):
        rng = random.Random(20)
        for great in (1, BIG, BIG * BIG):
            for _ in range(20):
                prices = [rng.randint(0, 9) * great + rng.randint(0, 3) for _ in range(40)]
                firsts = [rng.randrange(40) for _ in range(24)]
                runs = [(first, min(39, first + rng.randint(0, 12))) for first in firsts]
                # The dues, together as much, show that it is the least.
                self.assert_told(prices, runs, least_cost(prices, runs)[0])
        self.assert_told([BIG] * 40, [(k, k) for k in range(24)], 24 * BIG)
        self.assert_told([BIG] * 40, [(k, k + 16) for k in range(24)], 2 * BIG)
        self.assert_told(list(range(40)), [(k, k + 15) for k in range(24)], 7 + 23)

    def test_many_prices(self):
        rng = random.Random(21)
        prices = [rng.randint(0, BIG) for _ in range(300)]
        runs = [(first, min(299, first + rng.randint(0, 20))) for first in range(0, 300, 2)]
        self.assertIs(shows_cost(prices, runs, least_cost(prices, runs)), True)

    def test_what_stays_the_same(self):
        rng = random.Random(22)
        for _ in range(300):
            prices, runs = small_prices(rng)
            cost, places, _ = least_cost(prices, runs)
            for order in itertools.islice(itertools.permutations(runs), 30):
                self.assertEqual(least_cost(prices, list(order))[0], cost)
            self.assertEqual(least_cost(prices, runs + runs[::-1])[0], cost)
            self.assertEqual(least_cost(prices, runs + [(0, len(prices) - 1)])[0], cost)
            # Prices and runs from behind.
            end = len(prices) - 1
            self.assertEqual(least_cost(prices[::-1], [(end - last, end - first) for first, last in runs])[0], cost)
            # All moved behind other places, or with such behind them.
            for ahead in ([0], [BIG, 0, 3]):
                moved = [(first + len(ahead), last + len(ahead)) for first, last in runs]
                self.assertEqual(least_cost(ahead + prices + ahead, moved)[0], cost)
            # Places that aren't taken made dearer; all made dearer alike.
            dearer = [price + (0 if place in places else rng.choice([0, 1, BIG])) for place, price in enumerate(prices)]
            self.assertEqual(least_cost(dearer, runs)[0], cost)
            self.assertEqual(least_cost([BIG * price for price in prices], runs)[0], BIG * cost)
            raised = [price + 1 for price in prices]
            self.assertLessEqual(cost, least_cost(raised, runs)[0])
            self.assertLessEqual(least_cost(raised, runs)[0], cost + len(places))

    def test_changed_lists_are_answered_as_they_are_then(self):
        prices, runs = [4, 7], [(0, 1)]
        self.assertEqual(least_cost(prices, runs), (4, [0], [4]))
        runs.append((1, 1))
        self.assertEqual(least_cost(prices, runs)[:2], (7, [1]))
        prices[1] = 9
        self.assertEqual(least_cost(prices, runs)[:2], (9, [1]))
        runs[0] = (0, 0)
        self.assertEqual(least_cost(prices, runs), (13, [0, 1], [4, 9]))
        runs.pop()
        self.assertEqual(least_cost(prices, runs), (4, [0], [4]))


if __name__ == "__main__":
    unittest.main()
