"""[11] and [12] what shows that samples are as few, and places as cheap, as can be."""

import itertools
import random
import unittest

from tests.helper import (
    BIG, JUNK, are_rising_numbers, cost_tried, fewest_tried, holds_to_point_two, mangled, members, nested, small_prices,
    small_runs, subsets, tupled)
from tinrecall.costs import least_cost
from tinrecall.samplecheck import shows_cost, shows_samples
from tinrecall.samples import least_samples


def are_samples(runs, gone, told):
    """Whether anything is so as the words of [11] have it, all small numbers gone through."""
    if type(told) is not tuple:
        return False
    left = [members([run]) - members(gone) for run in runs]
    if len(told) == 2 and type(told[0]) is str and told[0] == "blind":
        return set() in left and type(told[1]) is int and told[1] == left.index(set())
    if len(told) != 3 or type(told[0]) is not str or told[0] != "samples" or set() in left:
        return False
    _, numbers, apart = told
    if not are_rising_numbers(numbers) or not are_rising_numbers(apart):
        return False
    if any(number in members(gone) for number in numbers) or any(number >= len(runs) for number in apart):
        return False
    if any(not some & set(numbers) for some in left) or len(numbers) != fewest_tried(runs, gone):
        return False
    return len(apart) == len(numbers) and not any(
        left[one] & left[other] for one, other in itertools.combinations(apart, 2))


def is_cost(prices, runs, told):
    """Whether anything is so as the words of [12] have it, all sets of few places gone through."""
    if type(told) is not tuple or len(told) != 3 or type(told[0]) is not int:
        return False
    cost, places, dues = told
    if not are_rising_numbers(places) or any(place >= len(prices) for place in places):
        return False
    if type(dues) not in (list, tuple) or any(type(due) is not int or due < 0 for due in dues):
        return False
    spans = [range(first, last + 1) for first, last in runs]
    if len(dues) != len(runs) or any(not set(span) & set(places) for span in spans):
        return False
    if cost != sum(prices[place] for place in places) or cost != cost_tried(prices, runs) or sum(dues) != cost:
        return False
    asked = [sum(due for span, due in zip(spans, dues) if place in span) for place in range(len(prices))]
    return all(due <= price for due, price in zip(asked, prices))


class ShowsSamplesTest(unittest.TestCase):
    def assert_as_the_words(self, runs, gone, told):
        self.assertIs(shows_samples(runs, gone, told), are_samples(runs, gone, told), (runs, gone, told))

    def test_told(self):
        runs, gone = [(0, 4), (8, 12), (3, 9), (8, 9)], [(3, 3), (10, 10)]
        cases = [
            ([4, 8], [0, 1], True), ([4, 9], [0, 1], True), ([0, 8], [0, 3], True), ([2, 9], [0, 3], True),
            # One more or less, one gone, one that no run has, or that leaves a run without.
            ([4], [0, 1], False), ([4, 8, 9], [0, 1], False), ([4, 8, 9], [0, 1, 3], False), ([4, 8], [0], False),
            ([4], [0], False), ([3, 8], [0, 1], False), ([4, 10], [0, 1], False), ([4, 13], [0, 1], False),
            ([2, 11], [0, 1], False), ([4, 11], [0, 1], False), ([8, BIG], [0, 1], False), ([], [], False),
            # Twice, not rising, below 0.
            ([4, 4], [0, 1], False), ([4, 8, 8], [0, 1], False), ([8, 4], [0, 1], False),
            ([-4, 4, 8], [0, 1, 2], False),
            ([-1, 8], [0, 1], False), ([4, 8], [1, 0], False), ([4, 8], [0, 0], False), ([4, 8], [1, 1], False),
            # Apart beyond the runs, below 0, with a number in both, more of them.
            ([4, 8], [0, 4], False), ([4, 8], [0, BIG], False), ([4, 8], [-1, 0], False), ([4, 8], [-4, -3], False),
            ([4, 8], [0, 2], False), ([4, 8], [1, 2], False), ([4, 8], [1, 3], False), ([4, 8], [2, 3], False),
            ([4, 8], [0, 1, 3], False), ([4, 8], [0, 1, 2], False), ([4, 8], [], False),
            # Other kinds.
            ([4, 8], [False, True], False), ([4, 8], [0, True], False), ([4, True], [0, 1], False),
            ([False, 8], [0, 1], False), (None, [0, 1], False), ([4, 8], None, False), ("48", [0, 1], False),
            ([4, 8], "01", False), (["4", "8"], [0, 1], False), ([4, 8], [None, 1], False), ([[4, 8]], [0, 1], False),
            ([4, 8], [(0, 1)], False), (4, [0], False), ([4, 8], 2, False), ("", "", False),
            ((4, 8), (0, 1), True), ((4, 8), [0, 1], True), ([4, 8], (0, 1), True),
        ]
        for numbers, apart, right in cases:
            with self.subTest((numbers, apart)):
                told = ("samples", numbers, apart)
                self.assertIs(shows_samples(runs, gone, told), right)
                self.assertIs(are_samples(runs, gone, told), right)

    def test_what_is_gone_parts_runs(self):
        runs = [(0, 4), (4, 9)]
        self.assertIs(shows_samples(runs, [(4, 4)], ("samples", [0, 9], [0, 1])), True)
        self.assertIs(shows_samples(runs, [(4, 4)], ("samples", [4], [0])), False)
        self.assertIs(shows_samples(runs, [], ("samples", [0, 9], [0, 1])), False)
        self.assertIs(shows_samples(runs, [], ("samples", [4], [0])), True)
        self.assertIs(shows_samples(runs, [], ("samples", [4], [1])), True)

    def test_first_words_and_lengths(self):
        runs, gone = [(0, 4)], []
        cases = [
            (("samples", [2], [0]), True), (["samples", [2], [0]], False), (("sample", [2], [0]), False),
            (("blind", [2], [0]), False), (("samples", [2]), False), (("samples", [2], [0], []), False), ((), False),
            (("samples",), False), ((None, [2], [0]), False), (([2], [0]), False), (("samples", 0), False),
            ((("samples", [2], [0]),), False), ([("samples", [2], [0])], False), (("SAMPLES", [2], [0]), False),
            ((["samples"], [2], [0]), False), ((0, [2], [0]), False), (None, False), ("samples", False), (True, False),
        ]
        for told, right in cases:
            self.assertIs(shows_samples(runs, gone, told), right, told)

    def test_blind(self):
        runs, gone = [(0, 9), (3, 4), (4, 4)], [(3, 5)]
        cases = [
            (("blind", 1), True), (("blind", 0), False), (("blind", 2), False), (("blind", 3), False),
            (("blind", -2), False),
            (("blind", True), False), (("blind", None), False), (("blind", "1"), False), (("blind", [1]), False),
            (("blind", (1,)), False), (["blind", 1], False), (("blind",), False), (("blind", 1, 1), False),
            (("blinder", 1), False), (("samples", 1), False), (("samples", [0], [0]), False), (("blind", BIG), False),
            (("samples", [0, 4], [0, 1]), False), ((1, "blind"), False), (("samples", [], []), False),
        ]
        for told, right in cases:
            self.assertIs(shows_samples(runs, gone, told), right, told)
        self.assertIs(shows_samples([(3, 4)], gone, ("blind", 0)), True)
        self.assertIs(shows_samples([(3, 4)], gone, ("blind", False)), False)
        for told in [("blind", k) for k in (-1, 0, 1, 2)]:
            self.assertIs(shows_samples(runs[:1], gone, told), False)

    def test_takes_all_that_is_told(self):
        rng = random.Random(23)
        for _ in range(1000):
            runs, gone = small_runs(rng)
            told = least_samples(runs, gone)
            self.assertIs(shows_samples(runs, gone, told), True, (runs, gone, told))
            self.assertIs(shows_samples(runs, gone, tupled(told)), True)
            self.assertTrue(are_samples(runs, gone, told))
            self.assertIs(shows_samples(runs, gone, list(told)), False)

    def test_all_choices_of_numbers_and_runs(self):
        rng = random.Random(24)
        rights = 0
        for _ in range(25):
            runs, gone = small_runs(rng, 4)
            few = [some for some in subsets(11) if len(some) <= 3]
            for numbers, apart in itertools.product(few, subsets(len(runs) + 1)):
                self.assert_as_the_words(runs, gone, ("samples", numbers, apart))
                rights += shows_samples(runs, gone, ("samples", numbers, apart))
            for k in range(-1, len(runs) + 1):
                self.assert_as_the_words(runs, gone, ("blind", k))
        self.assertGreater(rights, 50)

    def test_things_changed_in_small_ways(self):
        rng = random.Random(25)
        for _ in range(40):
            runs, gone = small_runs(rng, 5)
            told = least_samples(runs, gone)
            for thing in itertools.chain(mangled(told), mangled(tupled(told))):
                self.assert_as_the_words(runs, gone, thing)

    def test_things_nested_deep(self):
        for kind, deep in itertools.product((list, tuple), range(9)):
            for thing in [*JUNK, ("samples", [2], [0])]:
                self.assert_as_the_words([(0, 4)], [(0, 1)], nested(thing, deep, kind))
            for told in (("samples", nested(2, deep, kind), [0]), ("samples", [2], nested(0, deep, kind)),
                         (nested("samples", deep, kind), [2], [0]), ("blind", nested(0, deep, kind))):
                self.assert_as_the_words([(0, 4)], [(0, 1)], told)
                self.assert_as_the_words([(0, 4)], [(0, 4)], told)

    def test_great_numbers(self):
        runs, gone = [(0, BIG), (BIG, 2 * BIG), (2 * BIG, 3 * BIG)], [(BIG, BIG)]
        cases = [
            (("samples", [0, 2 * BIG], [0, 1]), True), (("samples", [BIG - 1, 2 * BIG], [0, 2]), True),
            (("samples", [BIG, 2 * BIG], [0, 1]), False), (("samples", [1, 2 * BIG], [1, 2]), False),
            (("samples", [1, 2 * BIG - 1], [0, 1]), False), (("samples", [BIG + 1, 2 * BIG], [0, 1]), False),
            (("samples", [1, 2 * BIG - 1, 3 * BIG], [0, 1, 2]), False), (("blind", 0), False),
        ]
        for told, right in cases:
            self.assertIs(shows_samples(runs, gone, told), right, told)
            self.assertIs(shows_samples(runs, [(BIG, 3 * BIG)], told), False)
        self.assertIs(shows_samples(runs, [(BIG, 3 * BIG)], ("blind", 1)), True)
        self.assertIs(shows_samples(runs, [(BIG, 3 * BIG - 1)], ("blind", 1)), True)
        self.assertIs(shows_samples(runs, [(BIG, 2 * BIG - 1)], ("blind", 1)), False)

    def test_how_many_samples_stays_the_same(self):
        rng = random.Random(26)
        for _ in range(300):
            runs, gone = small_runs(rng)
            told = least_samples(runs, gone)
            if told[0] == "blind":
                continue
            many = len(told[1])
            for order in itertools.islice(itertools.permutations(runs), 20):
                self.assertEqual(len(least_samples(list(order), gone)[1]), many)
                # The numbers serve the runs in any order; which of them are apart goes with their places.
                apart = sorted(order.index(runs[number]) for number in told[2])
                self.assertIs(shows_samples(list(order), gone, ("samples", told[1], apart)), True)
            self.assertEqual(len(least_samples(runs + runs, gone)[1]), many)
            self.assertIs(shows_samples(runs + runs, gone, told), True)
            for by in (1, BIG):
                moved = [(first + by, last + by) for first, last in runs]
                away = [(first + by, last + by) for first, last in gone]
                self.assertEqual(len(least_samples(moved, away)[1]), many)
                self.assertIs(shows_samples(moved, away, ("samples", [one + by for one in told[1]], told[2])), True)

    def test_point_two(self):
        runs, gone = [(0, 4), (8, 12)], [(3, 3)]
        self.assertIs(holds_to_point_two(self, shows_samples, runs, gone, ("samples", [4, 8], [0, 1])), True)
        self.assertIs(holds_to_point_two(self, shows_samples, runs, gone, ("samples", [3, 8], [0, 1])), False)
        numbers, apart = [4, 8], [0, 1]
        told = ("samples", numbers, apart)
        self.assertIs(shows_samples(runs, gone, told), True)
        numbers[0] = 3
        self.assertIs(shows_samples(runs, gone, told), False)
        gone.clear()
        self.assertIs(shows_samples(runs, gone, told), True)
        runs[1] = (4, 12)
        self.assertIs(shows_samples(runs, gone, told), False)
        runs[1] = (5, 12)
        self.assertIs(shows_samples(runs, gone, told), True)
        apart.pop()
        self.assertIs(shows_samples(runs, gone, told), False)


class ShowsCostTest(unittest.TestCase):
    def assert_as_the_words(self, prices, runs, told):
        self.assertIs(shows_cost(prices, runs, told), is_cost(prices, runs, told), (prices, runs, told))

    def test_told(self):
        prices, runs = [2, 3, 2, 0, 5], [(0, 1), (1, 2), (3, 4), (4, 4)]
        cases = [
            ((8, [1, 4], [2, 1, 0, 5]), True), ((8, [1, 4], [1, 2, 0, 5]), True), ((8, [1, 3, 4], [1, 2, 0, 5]), True),
            # Another cost.
            ((9, [1, 4], [2, 1, 0, 5]), False), ((7, [1, 4], [2, 1, 0, 5]), False), ((-8, [1, 4], [2, 1, 0, 5]), False),
            ((9, [0, 2, 4], [2, 1, 0, 5]), False), ((9, [0, 2, 4], [2, 2, 0, 5]), False),
            # A place left out or put in, twice, not rising, beyond the prices, below 0.
            ((8, [4], [2, 1, 0, 5]), False), ((8, [1], [2, 1, 0, 5]), False), ((3, [1], [2, 1, 0, 0]), False),
            ((10, [0, 1, 4], [2, 1, 0, 5]), False), ((8, [1, 1, 4], [2, 1, 0, 5]), False),
            ((8, [], [2, 1, 0, 5]), False),
            ((11, [1, 1, 4], [2, 1, 0, 5]), False), ((8, [4, 1], [2, 1, 0, 5]), False),
            ((8, [1, 5], [2, 1, 0, 5]), False),
            ((8, [1, 4, 5], [2, 1, 0, 5]), False), ((8, [-4, 4], [2, 1, 0, 5]), False),
            ((8, [-4, -1], [2, 1, 0, 5]), False),
            ((8, [-2, 1, 4], [2, 1, 0, 5]), False), ((8, [1, BIG], [2, 1, 0, 5]), False),
            ((0, [], [0, 0, 0, 0]), False),
            # Dues: one changed, one below 0, together above a price, fewer or more than runs.
            ((8, [1, 4], [2, 1, 0, 4]), False), ((8, [1, 4], [2, 1, 1, 4]), False), ((8, [1, 4], [3, 0, 0, 5]), False),
            ((8, [1, 4], [0, 3, 0, 5]), False), ((8, [1, 4], [4, -1, 0, 5]), False),
            ((8, [1, 4], [2, 2, -1, 5]), False),
            ((8, [1, 4], [2, 1, 5]), False), ((8, [1, 4], [2, 1, 0, 5, 0]), False), ((8, [1, 4], [2, 1, 0, 6]), False),
            ((8, [1, 4], [2, 1, 0, 0, 5]), False), ((8, [1, 4], []), False), ((8, [1, 4], [0, 0, 0, 8]), False),
            # Other kinds.
            ([8, [1, 4], [2, 1, 0, 5]], False), ((8, [True, 4], [2, 1, 0, 5]), False),
            ((8, [1, 4], [2, True, 0, 5]), False),
            ((8, [1, 4], [2, 1, False, 5]), False), ((8, [1, 4], [2, 1, None, 5]), False),
            (("8", [1, 4], [2, 1, 0, 5]), False),
            ((8, None, [2, 1, 0, 5]), False), ((8, [1, 4], None), False), ((None, [1, 4], [2, 1, 0, 5]), False),
            ((8, "14", [2, 1, 0, 5]), False), ((8, [1, 4], "2105"), False), (([8], [1, 4], [2, 1, 0, 5]), False),
            ((8, [[1], 4], [2, 1, 0, 5]), False), ((8, [1, 4], [2, 1, [0], 5]), False),
            ((8, [1, 4], [2, 1, "0", 5]), False),
            ((8, [1, 4]), False), ((8,), False), ((), False), ((8, [1, 4], [2, 1, 0, 5], []), False), (None, False),
            ((8, (1, 4), (2, 1, 0, 5)), True), ((8, [1, 4], (2, 1, 0, 5)), True), ((8, (1, 4), [2, 1, 0, 5]), True),
            ("8", False), (8, False), (True, False),
        ]
        for told, right in cases:
            with self.subTest(told):
                self.assertIs(shows_cost(prices, runs, told), right)
                self.assertIs(is_cost(prices, runs, told), right)

    def test_true_and_false_for_numbers(self):
        for told, right in [((1, [0], [1]), True), ((True, [0], [1]), False), ((1, [False], [1]), False),
                            ((1, [0], [True]), False)]:
            self.assertIs(shows_cost([1], [(0, 0)], told), right)
        for told, right in [((0, [0], [0]), True), ((False, [0], [0]), False), ((0, [0], [False]), False),
                            ((0, [1], [0]), False), ((0, [], [0]), False)]:
            self.assertIs(shows_cost([0, 1], [(0, 0)], told), right)

    def test_takes_all_that_is_told(self):
        rng = random.Random(27)
        for _ in range(1000):
            prices, runs = small_prices(rng)
            told = least_cost(prices, runs)
            self.assertIs(shows_cost(prices, runs, told), True, (prices, runs, told))
            self.assertIs(shows_cost(prices, runs, tupled(told)), True)
            self.assertTrue(is_cost(prices, runs, told))
            self.assertIs(shows_cost(prices, runs, list(told)), False)

    def test_all_choices_of_places_and_dues(self):
        rng = random.Random(28)
        others = 0
        for _ in range(40):
            prices = [rng.randint(0, 3) for _ in range(rng.randint(1, 4))]
            ends = [(rng.randrange(len(prices)), rng.randrange(len(prices))) for _ in range(rng.randint(1, 3))]
            runs = [tuple(sorted(pair)) for pair in ends]
            rights = 0
            for places in subsets(len(prices) + 1):
                cost = sum([*prices, 0][place] for place in places)
                for dues in itertools.product(range(4), repeat=len(runs)):
                    self.assert_as_the_words(prices, runs, (cost, places, list(dues)))
                    rights += shows_cost(prices, runs, (cost, places, list(dues)))
            self.assertGreater(rights, 0)
            others += rights > 1
        self.assertGreater(others, 10)

    def test_things_changed_in_small_ways(self):
        rng = random.Random(29)
        for _ in range(40):
            prices, runs = small_prices(rng)
            told = least_cost(prices, runs)
            for thing in itertools.chain(mangled(told), mangled(tupled(told))):
                self.assert_as_the_words(prices, runs, thing)

    def test_things_nested_deep(self):
        for kind, deep in itertools.product((list, tuple), range(9)):
            for thing in [*JUNK, (4, [0], [4])]:
                self.assert_as_the_words([4, 7], [(0, 1)], nested(thing, deep, kind))
            for told in ((nested(4, deep, kind), [0], [4]), (4, nested(0, deep, kind), [4]),
                         (4, [0], nested(4, deep, kind))):
                self.assert_as_the_words([4, 7], [(0, 1)], told)

    def test_great_numbers(self):
        prices, runs = [2 * BIG, 3 * BIG, 2 * BIG], [(0, 1), (1, 2)]
        cases = [
            ((3 * BIG, [1], [BIG, 2 * BIG]), True), ((3 * BIG, [1], [BIG + 1, 2 * BIG - 1]), True),
            ((3 * BIG, [1], [BIG - 1, 2 * BIG + 1]), False), ((3 * BIG, [1], [BIG, 2 * BIG - 1]), False),
            ((3 * BIG + 1, [1], [BIG + 1, 2 * BIG]), False), ((4 * BIG, [0, 2], [2 * BIG, 2 * BIG]), False),
        ]
        for told, right in cases:
            self.assertIs(shows_cost(prices, runs, told), right, told)

    def test_told_again_of_what_stays_the_same(self):
        rng = random.Random(30)
        for _ in range(200):
            prices, runs = small_prices(rng)
            cost, places, dues = least_cost(prices, runs)
            turn = list(range(len(runs)))
            rng.shuffle(turn)
            told = (cost, places, [dues[k] for k in turn])
            self.assertIs(shows_cost(prices, [runs[k] for k in turn], told), True)
            self.assertIs(shows_cost(prices, runs + runs, (cost, places, dues + [0] * len(runs))), True)
            # Places that aren't taken made dearer.
            dearer = [price + (0 if place in places else 3) for place, price in enumerate(prices)]
            self.assertIs(shows_cost(dearer, runs, (cost, places, dues)), True)
            moved = [(first + 2, last + 2) for first, last in runs]
            told = (cost, [place + 2 for place in places], dues)
            self.assertIs(shows_cost([0, BIG, *prices, 5], moved, told), True)
            self.assertIs(shows_cost([*prices, 9], runs, (cost, places, dues)), True)

    def test_point_two(self):
        prices, runs = [2, 3, 2], [(0, 1), (1, 2)]
        self.assertIs(holds_to_point_two(self, shows_cost, prices, runs, (3, [1], [1, 2])), True)
        self.assertIs(holds_to_point_two(self, shows_cost, prices, runs, (3, [1], [0, 3])), False)
        places, dues = [1], [1, 2]
        told = (3, places, dues)
        self.assertIs(shows_cost(prices, runs, told), True)
        dues[:] = [0, 3]
        self.assertIs(shows_cost(prices, runs, told), False)
        prices[2] = 3
        self.assertIs(shows_cost(prices, runs, told), True)
        runs[1] = (2, 2)
        self.assertIs(shows_cost(prices, runs, told), False)
        runs[0] = (2, 2)
        places[0] = 2
        self.assertIs(shows_cost(prices, runs, told), True)


if __name__ == "__main__":
    unittest.main()
