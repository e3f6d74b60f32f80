"""whole: units handed out one by one."""

import unittest
from itertools import product

from tests.helper import (
    FAIR, Numbers, TOLD, WHOLE, all_shares, appetite, ask, can, food, fractions, laid, last, most,
    mosts_by_bounds, one_more, reach, whole_by_units)

EVERY = list(range(8))


def whole_by_meals(eaten, count):
    """The words over again: one more to whom a meal still gives it, the least first, the first first."""
    shares = (0,) * count
    while True:
        takers = [mouth for mouth in range(count)
                  if any(other[mouth] > shares[mouth] and all(o >= s for o, s in zip(other, shares))
                         for other in eaten)]
        if not takers:
            return list(shares)
        shares = one_more(shares, min(takers, key=lambda mouth: (shares[mouth], mouth)))


class Whole(unittest.TestCase):
    def shares(self, foods, appetites, reaches):
        return last(*laid(foods, appetites, reaches), WHOLE)

    def test_of_one(self):
        self.assertEqual(self.shares([5], [9], [[0]]), [0, 5])
        self.assertEqual(self.shares([9], [5], [[0]]), [0, 5])
        self.assertEqual(self.shares([9, 4], [50], [[0, 1]]), [0, 13])

    def test_what_is_left_over_goes_to_the_first(self):
        self.assertEqual(self.shares([7], [9, 9, 9], [[0]] * 3), [0, 3, 2, 2])
        self.assertEqual(self.shares([8], [9, 9, 9], [[0]] * 3), [0, 3, 3, 2])
        self.assertEqual(self.shares([9], [9, 9, 9], [[0]] * 3), [0, 3, 3, 3])
        self.assertEqual(self.shares([1], [9] * 8, [[0]] * 8), [0, 1] + [0] * 7)

    def test_to_the_first_of_those_who_can_have_one_more(self):
        self.assertEqual(self.shares([8], [1, 9, 9, 9], [[0]] * 4), [0, 1, 3, 2, 2])
        # The first reaches nothing that is left.
        self.assertEqual(self.shares([1, 4], [9, 9, 9], [[0], [1], [1]]), [0, 1, 2, 2])
        self.assertEqual(self.shares([1, 5], [9, 9, 9], [[0], [1], [1]]), [0, 1, 3, 2])

    def test_all_others_keep_what_they_have(self):
        # Mouth 1 eats in place 1, as mouth 0 has all of place 0.
        self.assertEqual(self.shares([2, 1], [9, 9], [[0], [0, 1]]), [0, 2, 1])
        self.assertEqual(self.shares([1, 2], [9, 9], [[0], [0, 1]]), [0, 1, 2])
        self.assertEqual(self.shares([2, 1], [9, 9], [[0, 1], [0]]), [0, 2, 1])
        self.assertEqual(self.shares([1, 1, 1], [9, 9], [[0, 1, 2], [0]]), [0, 2, 1])

    def test_without_food_or_appetite_or_reach(self):
        self.assertEqual(self.shares([0], [9, 9], [[0], [0]]), [0, 0, 0])
        self.assertEqual(self.shares([9], [0, 4], [[0], [0]]), [0, 0, 4])
        self.assertEqual(self.shares([9], [4, 7], [[], [0]]), [0, 0, 7])
        self.assertEqual(self.shares([0] * 8, [100] * 8, [EVERY] * 8), [0] * 9)

    def test_eight_places_and_eight_mouths(self):
        self.assertEqual(self.shares([100] * 8, [100] * 8, [EVERY] * 8), [0] + [100] * 8)
        self.assertEqual(self.shares([100] * 7 + [97], [100] * 8, [EVERY] * 8), [0] + [100] * 5 + [99] * 3)
        self.assertEqual(self.shares([0] * 7 + [99], [100] * 8, [EVERY] * 8), [0, 13, 13, 13] + [12] * 5)

    def test_it_follows_each_change(self):
        start = laid([5, 6], [5, 5], [[0], [0]])
        got = ask(*start, WHOLE, reach(1, [1]), WHOLE, food(0, 2), WHOLE, reach(0, [0, 1]), WHOLE,
                  appetite(0, 1), WHOLE, WHOLE)
        self.assertEqual(got[3:-1:2], [[0, 3, 2], [0, 5, 5], [0, 2, 5], [0, 4, 4], [0, 1, 5]])
        self.assertEqual(got[-1], got[-2])

    def test_asking_changes_nothing(self):
        got = ask(*laid([4, 6], [5, 5], [[0], [0, 1]]), TOLD, WHOLE, TOLD, WHOLE)[3:]
        self.assertEqual(got[0], got[2])
        self.assertEqual(got[1], got[3])


class AgainstCounts(unittest.TestCase):
    def held_against_meals(self, foods, appetites, reaches):
        where = (foods, appetites, reaches)
        eaten = all_shares(*where)
        got = last(*laid(*where), WHOLE)
        self.assertEqual(got, [0] + whole_by_meals(eaten, len(appetites)), where)
        self.assertIn(tuple(got[1:]), eaten, where)
        self.assertEqual(sorted(got[1:]), max(sorted(other) for other in eaten), where)

    def test_all_smallest_tables(self):
        reached = ([], [0], [1], [0, 1])
        for foods in product(range(3), repeat=2):
            for appetites in product(range(3), repeat=2):
                for reaches in product(reached, repeat=2):
                    self.held_against_meals(list(foods), list(appetites), reaches)

    def test_small_tables(self):
        numbers = Numbers(60)
        for _ in range(60):
            self.held_against_meals(*numbers.laid(4, 4, 3))
        for _ in range(20):
            self.held_against_meals(*numbers.laid(4, 3, 7))

    def test_one_by_one(self):
        numbers = Numbers(61)
        for most_amount in (2, 5, 20, 100):
            for _ in range(12):
                self.held_one_by_one(*numbers.laid(6, 5, most_amount))

    def test_one_by_one_on_the_largest_tables(self):
        numbers = Numbers(62)
        for most_amount in (1, 3, 10, 100, 100):
            self.held_one_by_one(*numbers.largest(most_amount))

    def held_one_by_one(self, foods, appetites, reaches):
        where = (foods, appetites, reaches)
        want = whole_by_units(mosts_by_bounds(*where), len(appetites))
        self.assertEqual(last(*laid(*where), WHOLE), [0] + want, where)

    def test_a_meal_has_them_and_each_is_close_to_the_fairest(self):
        numbers = Numbers(63)
        for most_amount in (3, 10, 100):
            for _ in range(30):
                foods, appetites, reaches = numbers.laid(8, 8, most_amount)
                every = list(range(len(appetites)))
                start = laid(foods, appetites, reaches)
                got = ask(*start, WHOLE, FAIR, most(every))[len(start):]
                shares = got[0][1:]
                self.assertEqual(last(*start, can(shares)), [1])
                self.assertEqual([sum(shares)], got[2])
                for share, fairest in zip(shares, fractions(got[1])):
                    self.assertLess(abs(share - fairest), 1)


if __name__ == "__main__":
    unittest.main()
