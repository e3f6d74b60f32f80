"""most: the greatest sum of a set's shares in any meal, and the least of its bounds."""

import unittest
from itertools import product

from tests.helper import (
    Numbers, appetite, ask, food, laid, last, meals, most, most_by_bounds, most_by_meals, reach,
    subsets, table)


class Most(unittest.TestCase):
    def most_of(self, foods, appetites, reaches, members):
        return last(*laid(foods, appetites, reaches), most(members))

    def held(self, foods, appetites, reaches, counted):
        """Every set's most is what the count says."""
        sets = list(subsets(range(len(appetites))))
        start = laid(foods, appetites, reaches)
        got = ask(*start, *[most(members) for members in sets])[len(start):]
        want = [[counted(foods, appetites, reaches, members)] for members in sets]
        self.assertEqual(got, want, (foods, appetites, reaches))

    def test_of_none(self):
        self.assertEqual(self.most_of([9], [9], [[0]], []), [0])
        self.assertEqual(self.most_of([100] * 8, [100] * 8, [list(range(8))] * 8, []), [0])

    def test_of_one(self):
        self.assertEqual(self.most_of([5], [9], [[0]], [0]), [5])
        self.assertEqual(self.most_of([9], [5], [[0]], [0]), [5])
        self.assertEqual(self.most_of([5], [5], [[0]], [0]), [5])
        self.assertEqual(self.most_of([2, 3, 4], [100], [[0, 2]], [0]), [6])

    def test_of_some_and_of_all(self):
        laid_so = ([4, 6], [5, 5, 5], [[0], [0, 1], [1]])
        self.assertEqual(self.most_of(*laid_so, [0, 1]), [9])
        self.assertEqual(self.most_of(*laid_so, [0, 2]), [9])
        self.assertEqual(self.most_of(*laid_so, [1, 2]), [10])
        self.assertEqual(self.most_of(*laid_so, [0, 1, 2]), [10])

    def test_a_place_that_several_reach_is_eaten_once(self):
        self.assertEqual(self.most_of([7], [5, 5, 5], [[0]] * 3, [0, 1, 2]), [7])
        self.assertEqual(self.most_of([7], [1, 2, 3], [[0]] * 3, [0, 1, 2]), [6])

    def test_a_part_of_the_set_is_bound(self):
        # Mouths 0 and 1 share little food; mouth 2 is bound by its appetite alone.
        laid_so = ([3, 90], [10, 10, 20], [[0], [0], [0, 1]])
        self.assertEqual(self.most_of(*laid_so, [0, 1, 2]), [23])

    def test_food_that_nobody_reaches_counts_for_nothing(self):
        self.assertEqual(self.most_of([4, 90], [50], [[0]], [0]), [4])
        self.assertEqual(self.most_of([90], [50, 50], [[], []], [0, 1]), [0])

    def test_food_reached_by_others_alone_counts_for_nothing(self):
        self.assertEqual(self.most_of([4, 90], [50, 50], [[0], [1]], [0]), [4])

    def test_without_food(self):
        self.assertEqual(self.most_of([0, 0], [9, 9], [[0, 1], [0, 1]], [0, 1]), [0])
        self.assertEqual(self.most_of([0, 6], [9, 9], [[0, 1], [0]], [0, 1]), [6])

    def test_without_appetite(self):
        self.assertEqual(self.most_of([9, 9], [0, 0], [[0, 1], [0, 1]], [0, 1]), [0])
        self.assertEqual(self.most_of([9, 9], [0, 4], [[0, 1], [0, 1]], [0, 1]), [4])

    def test_eight_places_and_eight_mouths(self):
        every = list(range(8))
        self.assertEqual(self.most_of([100] * 8, [100] * 8, [every] * 8, every), [800])
        own = [[place] for place in every]
        self.assertEqual(self.most_of([1, 2, 3, 4, 5, 6, 7, 8], [4] * 8, own, every), [26])

    def test_most_follows_each_change(self):
        calls = laid([4, 6], [5, 5], [[0], [0]]) + [
            most([0, 1]), reach(1, [1]), most([0, 1]), food(1, 3), most([0, 1]),
            appetite(0, 2), most([0, 1]), reach(0, []), most([0, 1]), table([1], [1, 1]),
            most([0, 1])]
        got = ask(*calls)[3:]
        self.assertEqual(got[0::2], [[4], [9], [7], [5], [3], [0]])

    def test_asking_changes_nothing(self):
        start = laid([4, 6], [5, 5], [[0], [0, 1]])
        got = ask(*start, most([0, 1]), [4], most([1]), [4], most([0, 1]))[3:]
        self.assertEqual(got[0], got[4])
        self.assertEqual(got[1], got[3])

    def test_against_all_meals_of_all_smallest_tables(self):
        reached = ([], [0], [1], [0, 1])
        for foods in product(range(3), repeat=2):
            for appetites in product(range(3), repeat=2):
                for reaches in product(reached, repeat=2):
                    self.held(list(foods), list(appetites), reaches, most_by_meals)

    def test_against_all_meals_of_small_tables(self):
        numbers = Numbers(7)
        for _ in range(60):
            self.held(*numbers.laid(3, 3, 3), most_by_meals)

    def test_against_all_bounds(self):
        numbers = Numbers(8)
        for most_amount in (1, 3, 10, 100):
            for _ in range(12):
                self.held(*numbers.laid(8, 6, most_amount), most_by_bounds)

    def test_against_all_bounds_of_the_largest(self):
        numbers = Numbers(9)
        every = list(range(8))
        for _ in range(6):
            foods = [numbers.below(101) for _ in every]
            appetites = [numbers.below(101) for _ in every]
            reaches = [numbers.some(8) for _ in every]
            self.held(foods, appetites, reaches, most_by_bounds)


class SharesAndMost(unittest.TestCase):
    """A meal has given shares just if no set of mouths has more than its most."""

    def held(self, foods, appetites, reaches):
        mouths = range(len(appetites))
        sets = list(subsets(mouths))
        start = laid(foods, appetites, reaches)
        mosts = ask(*start, *[most(members) for members in sets])[len(start):]
        eaten = {tuple(shares) for shares in meals(foods, appetites, reaches)}
        for shares in product(*[range(amount + 2) for amount in appetites]):
            within = all(sum(shares[m] for m in members) <= bound[0]
                         for members, bound in zip(sets, mosts))
            self.assertEqual(within, shares in eaten, (foods, appetites, reaches, shares))

    def test_small_tables(self):
        numbers = Numbers(10)
        for _ in range(60):
            self.held(*numbers.laid(3, 3, 3))


if __name__ == "__main__":
    unittest.main()
