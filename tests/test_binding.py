"""binding: who of a set is bound by food."""

import unittest
from itertools import product

from tests.helper import (
    Numbers, TOLD, appetite, ask, binding, binding_by_bounds, food, laid, last, most, reach, subsets)


class Binding(unittest.TestCase):
    def bound(self, foods, appetites, reaches, members):
        return last(*laid(foods, appetites, reaches), binding(members))

    def held(self, foods, appetites, reaches):
        """Every set's bound members are those of an own count of all bounds."""
        sets = list(subsets(range(len(appetites))))
        start = laid(foods, appetites, reaches)
        got = ask(*start, *[binding(members) for members in sets])[len(start):]
        want = [[0] + binding_by_bounds(foods, appetites, reaches, members) for members in sets]
        self.assertEqual(got, want, (foods, appetites, reaches))

    def test_of_none(self):
        self.assertEqual(self.bound([9], [9], [[0]], []), [0])
        self.assertEqual(self.bound([0], [9], [[]], []), [0])
        self.assertEqual(self.bound([0] * 8, [100] * 8, [list(range(8))] * 8, []), [0])

    def test_all_get_what_they_want(self):
        self.assertEqual(self.bound([9], [8], [[0]], [0]), [0])
        self.assertEqual(self.bound([9, 9], [5, 5, 5], [[0], [0, 1], [1]], [0, 1, 2]), [0])

    def test_less_food_than_appetite(self):
        self.assertEqual(self.bound([7], [8], [[0]], [0]), [0, 0])
        self.assertEqual(self.bound([7], [4, 4], [[0], [0]], [0, 1]), [0, 0, 1])
        self.assertEqual(self.bound([7], [4, 4], [[0], [0]], [0]), [0])
        self.assertEqual(self.bound([7], [4, 4], [[0], [0]], [1]), [0])

    def test_as_much_food_as_appetite_binds(self):
        self.assertEqual(self.bound([7], [7], [[0]], [0]), [0, 0])
        self.assertEqual(self.bound([7], [3, 4], [[0], [0]], [0, 1]), [0, 0, 1])

    def test_some_are_bound_and_others_not(self):
        laid_so = ([3, 90], [10, 10, 20], [[0], [0], [0, 1]])
        self.assertEqual(self.bound(*laid_so, [0, 1, 2]), [0, 0, 1])
        self.assertEqual(self.bound(*laid_so, [1, 2]), [0, 1])
        self.assertEqual(self.bound(*laid_so, [2]), [0])

    def test_the_members_of_all_least_choices_are_told(self):
        # None, mouth 0, mouth 1 and both have the same bound.
        self.assertEqual(self.bound([5, 4], [5, 4], [[0], [1]], [0, 1]), [0, 0, 1])
        # None and all three have it, no single one and no two.
        self.assertEqual(self.bound([6], [2, 2, 2], [[0]] * 3, [0, 1, 2]), [0, 0, 1, 2])
        # Mouth 0 alone has it, and mouth 0 with mouths 1 and 2; mouth 3 is in none.
        laid_so = ([3, 8, 90], [10, 4, 4, 5], [[0], [1], [1], [2]])
        self.assertEqual(self.bound(*laid_so, [0, 1, 2, 3]), [0, 0, 1, 2])

    def test_a_mouth_without_appetite(self):
        self.assertEqual(self.bound([9], [0], [[0]], [0]), [0])
        self.assertEqual(self.bound([0], [0], [[0]], [0]), [0, 0])
        # All that it reaches binds mouth 1, so it is in a least choice too.
        self.assertEqual(self.bound([9], [0, 10], [[0], [0]], [0, 1]), [0, 0, 1])
        self.assertEqual(self.bound([9, 1], [0, 10], [[0, 1], [0]], [0, 1]), [0, 1])

    def test_a_mouth_that_reaches_nothing(self):
        self.assertEqual(self.bound([9], [5], [[]], [0]), [0, 0])
        self.assertEqual(self.bound([9], [0], [[]], [0]), [0, 0])
        self.assertEqual(self.bound([9], [5, 5], [[], [0]], [0, 1]), [0, 0])

    def test_without_food(self):
        self.assertEqual(self.bound([0, 0], [3, 3], [[0], [1]], [0, 1]), [0, 0, 1])

    def test_they_give_the_least_bound_too(self):
        numbers = Numbers(20)
        for _ in range(30):
            foods, appetites, reaches = numbers.laid(5, 5, 6)
            members = numbers.some(len(appetites))
            start = laid(foods, appetites, reaches)
            got = ask(*start, binding(members), most(members))
            chosen = got[-2][1:]
            places = {place for mouth in chosen for place in reaches[mouth]}
            bound = sum(foods[place] for place in places)
            bound += sum(appetites[mouth] for mouth in members if mouth not in chosen)
            self.assertEqual(got[-1], [bound])

    def test_it_follows_each_change(self):
        start = laid([4, 6], [5, 5], [[0], [0]])
        got = ask(*start, binding([0, 1]), reach(1, [1]), binding([0, 1]), food(0, 6),
                  binding([0, 1]), appetite(1, 6), binding([0, 1]), reach(0, []), binding([0, 1]))
        self.assertEqual(got[3::2], [[0, 0, 1], [0, 0], [0], [0, 1], [0, 0, 1]])

    def test_asking_changes_nothing(self):
        start = laid([4, 6], [5, 5], [[0], [0, 1]])
        got = ask(*start, TOLD, binding([0, 1]), TOLD, binding([0, 1]))[3:]
        self.assertEqual(got[0], got[2])
        self.assertEqual(got[1], got[3])

    def test_against_all_bounds_of_all_smallest_tables(self):
        reached = ([], [0], [1], [0, 1])
        for foods in product(range(3), repeat=2):
            for appetites in product(range(3), repeat=2):
                for reaches in product(reached, repeat=2):
                    self.held(list(foods), list(appetites), reaches)

    def test_against_all_bounds(self):
        numbers = Numbers(21)
        for most_amount in (1, 2, 5, 100):
            for _ in range(12):
                self.held(*numbers.laid(6, 6, most_amount))

    def test_against_all_bounds_of_the_largest(self):
        numbers = Numbers(22)
        for most_amount in (3, 100, 100):
            self.held(*numbers.largest(most_amount))


if __name__ == "__main__":
    unittest.main()
