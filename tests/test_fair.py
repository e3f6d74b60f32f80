"""fair and levels: the fairest shares as exact fractions, and who has the same."""

import unittest
from fractions import Fraction
from itertools import product
from math import lcm

from tests.helper import (
    FAIR, LEVELS, Numbers, TOLD, all_shares, appetite, as_levels, as_pairs, ask, fairest_by_filling,
    food, fractions, laid, last, most, mosts_by_bounds, reach, set_of, subsets)

EVERY = list(range(8))


class Fairest(unittest.TestCase):
    def both(self, foods, appetites, reaches, fair, levels):
        got = ask(*laid(foods, appetites, reaches), FAIR, LEVELS)[-2:]
        self.assertEqual(got, [[0] + fair, [0] + levels])

    def test_of_one(self):
        self.both([5], [9], [[0]], [5, 1], [5, 1, 1, 0])
        self.both([9], [5], [[0]], [5, 1], [5, 1, 1, 0])
        self.both([9, 3], [50], [[0, 1]], [12, 1], [12, 1, 1, 0])

    def test_a_place_shared_evenly(self):
        self.both([7], [9, 9, 9], [[0]] * 3, [7, 3] * 3, [7, 3, 3, 0, 1, 2])
        self.both([5], [9, 9], [[0]] * 2, [5, 2] * 2, [5, 2, 2, 0, 1])

    def test_lowest_terms(self):
        self.both([6], [9] * 4, [[0]] * 4, [3, 2] * 4, [3, 2, 4, 0, 1, 2, 3])
        self.both([8], [9] * 4, [[0]] * 4, [2, 1] * 4, [2, 1, 4, 0, 1, 2, 3])
        self.both([4], [9] * 6, [[0]] * 6, [2, 3] * 6, [2, 3, 6, 0, 1, 2, 3, 4, 5])
        self.both([100], [99] * 8, [[0]] * 8, [25, 2] * 8, [25, 2, 8] + EVERY)

    def test_a_small_appetite_leaves_more_to_others(self):
        self.both([10], [9, 1, 9], [[0]] * 3, [9, 2, 1, 1, 9, 2], [1, 1, 1, 1, 9, 2, 2, 0, 2])

    def test_places_that_are_not_shared(self):
        self.both([7, 2, 5], [9, 9, 4], [[0], [1], [2]], [7, 1, 2, 1, 4, 1],
                  [2, 1, 1, 1, 4, 1, 1, 2, 7, 1, 1, 0])

    def test_who_reaches_more_leaves_the_shared_place(self):
        self.both([6, 4], [9, 9], [[0], [0, 1]], [5, 1, 5, 1], [5, 1, 2, 0, 1])
        self.both([6, 8], [9, 9], [[0], [0, 1]], [6, 1, 8, 1], [6, 1, 1, 0, 8, 1, 1, 1])
        self.both([4, 6], [5, 5, 5], [[0], [0, 1], [1]], [10, 3] * 3, [10, 3, 3, 0, 1, 2])

    def test_sets_apart_with_one_share_are_one_level(self):
        self.both([3, 3], [9] * 4, [[0], [1], [0], [1]], [3, 2] * 4, [3, 2, 4, 0, 1, 2, 3])
        self.both([3, 6, 90], [9, 9, 3, 80], [[0], [1], [1], [2]], [3, 1] * 3 + [80, 1],
                  [3, 1, 3, 0, 1, 2, 80, 1, 1, 3])
        self.both([6, 2], [9] * 4, [[0], [0], [0], [1]], [2, 1] * 4, [2, 1, 4, 0, 1, 2, 3])

    def test_shares_that_lie_close(self):
        # 14 / 3, 19 / 4 and 5 / 1 in the order of the fractions, not of what's above or below.
        self.both([14, 19, 5], [99] * 8, [[0]] * 3 + [[1]] * 4 + [[2]],
                  [14, 3] * 3 + [19, 4] * 4 + [5, 1],
                  [14, 3, 3, 0, 1, 2, 19, 4, 4, 3, 4, 5, 6, 5, 1, 1, 7])

    def test_without_food(self):
        self.both([0], [9, 9], [[0], [0]], [0, 1] * 2, [0, 1, 2, 0, 1])
        self.both([0] * 8, [100] * 8, [EVERY] * 8, [0, 1] * 8, [0, 1, 8] + EVERY)

    def test_without_appetite(self):
        self.both([9], [0, 0], [[0], [0]], [0, 1] * 2, [0, 1, 2, 0, 1])
        self.both([9], [0, 4], [[0], [0]], [0, 1, 4, 1], [0, 1, 1, 0, 4, 1, 1, 1])

    def test_who_reaches_nothing_has_nothing(self):
        self.both([9], [5, 5], [[], []], [0, 1] * 2, [0, 1, 2, 0, 1])
        self.both([9], [7, 5, 7], [[0], [], [0]], [9, 2, 0, 1, 9, 2], [0, 1, 1, 1, 9, 2, 2, 0, 2])

    def test_eight_levels(self):
        appetites = [80, 10, 70, 20, 60, 30, 50, 40]
        self.both([100] * 8, appetites, [EVERY] * 8,
                  [part for amount in appetites for part in (amount, 1)],
                  [10, 1, 1, 1, 20, 1, 1, 3, 30, 1, 1, 5, 40, 1, 1, 7, 50, 1, 1, 6, 60, 1, 1, 4,
                   70, 1, 1, 2, 80, 1, 1, 0])

    def test_eight_places_and_eight_mouths(self):
        self.both([100] * 8, [100] * 8, [EVERY] * 8, [100, 1] * 8, [100, 1, 8] + EVERY)
        self.both([100] * 7 + [99], [100] * 8, [EVERY] * 8, [799, 8] * 8, [799, 8, 8] + EVERY)

    def test_they_follow_each_change(self):
        start = laid([4, 6], [5, 5], [[0], [0]])
        got = ask(*start, FAIR, reach(1, [1]), FAIR, food(0, 2), FAIR, reach(0, [0, 1]), FAIR,
                  appetite(0, 1), FAIR, FAIR)
        self.assertEqual(got[3:-1:2], [[0, 2, 1, 2, 1], [0, 4, 1, 5, 1], [0, 2, 1, 5, 1],
                                       [0, 4, 1, 4, 1], [0, 1, 1, 5, 1]])
        self.assertEqual(got[-1], got[-2])

    def test_asking_changes_nothing(self):
        start = laid([4, 6], [5, 5], [[0], [0, 1]])
        got = ask(*start, TOLD, FAIR, TOLD, LEVELS, TOLD, FAIR, LEVELS)[3:]
        self.assertEqual(got[0], got[2])
        self.assertEqual(got[0], got[4])
        self.assertEqual([got[1], got[3]], got[5:])


class AgainstCounts(unittest.TestCase):
    def shares_of(self, foods, appetites, reaches):
        """The fairest shares; levels is held against them."""
        got = ask(*laid(foods, appetites, reaches), FAIR, LEVELS)[-2:]
        shares = fractions(got[0])
        self.assertEqual(len(shares), len(appetites))
        self.assertEqual(got[1], [0] + as_levels(shares), (foods, appetites, reaches))
        return shares

    def held_as_fairest(self, foods, appetites, reaches):
        where = (foods, appetites, reaches)
        shares = self.shares_of(*where)
        mosts = mosts_by_bounds(*where)
        for number, amount in enumerate(mosts):
            self.assertLessEqual(sum(shares[mouth] for mouth in set_of(number)), amount, where)
        # All who have no more than some share have their whole most: none of
        # them can have more unless another of them has less.
        for share in shares:
            number = sum(1 << mouth for mouth, other in enumerate(shares) if other <= share)
            self.assertEqual(sum(shares[mouth] for mouth in set_of(number)), mosts[number], where)
        self.assertEqual(sum(shares), mosts[-1], where)
        self.assertEqual(shares, fairest_by_filling(mosts, len(appetites)), where)

    def test_no_meal_in_parts_of_one_is_fairer(self):
        numbers = Numbers(40)
        for _ in range(40):
            self.held_against_parts(*numbers.laid(3, 3, 3))
        for _ in range(12):
            self.held_against_parts(*numbers.laid(4, 2, 6))

    def held_against_parts(self, foods, appetites, reaches):
        where = (foods, appetites, reaches)
        shares = self.shares_of(*where)
        # In these parts each share is whole, whatever count of mouths it is shared by.
        part = lcm(*range(1, len(appetites) + 1))
        eaten = all_shares([amount * part for amount in foods],
                           [amount * part for amount in appetites], reaches)
        mine = tuple(share * part for share in shares)
        self.assertIn(mine, eaten, where)
        best = max(sorted(other) for other in eaten)
        self.assertEqual(sorted(mine), best, where)
        self.assertEqual([other for other in eaten if sorted(other) == best], [mine], where)
        self.assertEqual(sum(mine), max(map(sum, eaten)), where)

    def test_no_whole_meal_is_fairer(self):
        numbers = Numbers(41)
        for _ in range(40):
            where = numbers.laid(4, 4, 4)
            shares = sorted(self.shares_of(*where))
            for other in all_shares(*where):
                self.assertLessEqual(sorted(other), shares, where)

    def test_all_smallest_tables(self):
        reached = ([], [0], [1], [0, 1])
        for foods in product(range(3), repeat=2):
            for appetites in product(range(3), repeat=2):
                for reaches in product(reached, repeat=2):
                    self.held_as_fairest(list(foods), list(appetites), reaches)

    def test_small_tables(self):
        numbers = Numbers(42)
        for most_amount in (1, 3, 7, 20, 100):
            for _ in range(16):
                self.held_as_fairest(*numbers.laid(6, 5, most_amount))

    def test_the_largest_tables(self):
        numbers = Numbers(43)
        for most_amount in (1, 2, 10, 100, 100, 100):
            self.held_as_fairest(*numbers.largest(most_amount))

    def test_the_largest_tables_with_few_reached(self):
        numbers = Numbers(44)
        for _ in range(4):
            foods, appetites, _reaches = numbers.largest()
            reaches = [sorted({numbers.below(8), numbers.below(8)}) for _ in EVERY]
            self.held_as_fairest(foods, [50 + amount // 2 for amount in appetites], reaches)

    def test_all_that_can_be_eaten_is_eaten(self):
        numbers = Numbers(45)
        for _ in range(40):
            foods, appetites, reaches = numbers.laid(8, 8, 30)
            every = list(range(len(appetites)))
            got = ask(*laid(foods, appetites, reaches), FAIR, most(every))[-2:]
            self.assertEqual([sum(fractions(got[0]))], got[1])


class MoreFoodOrAppetite(unittest.TestCase):
    def test_more_food_lessens_no_share(self):
        numbers = Numbers(50)
        for most_amount in (3, 10, 100):
            for _ in range(25):
                foods, appetites, reaches = numbers.laid(6, 6, most_amount)
                start = laid(foods, appetites, reaches)
                ahead = fractions(last(*start, FAIR))
                for place, amount in enumerate(foods):
                    more = min(100, amount + 1 + numbers.below(most_amount))
                    behind = fractions(last(*start, food(place, more), FAIR))
                    for was, now in zip(ahead, behind):
                        self.assertGreaterEqual(now, was)

    def test_more_appetite_lessens_not_its_own_and_raises_no_other(self):
        numbers = Numbers(51)
        for most_amount in (3, 10, 100):
            for _ in range(25):
                foods, appetites, reaches = numbers.laid(6, 6, most_amount)
                start = laid(foods, appetites, reaches)
                ahead = fractions(last(*start, FAIR))
                for mouth, amount in enumerate(appetites):
                    more = min(100, amount + 1 + numbers.below(most_amount))
                    behind = fractions(last(*start, appetite(mouth, more), FAIR))
                    self.assertGreaterEqual(behind[mouth], ahead[mouth])
                    for other in range(len(appetites)):
                        if other != mouth:
                            self.assertLessEqual(behind[other], ahead[other])

    def test_examples(self):
        start = laid([10, 0], [2, 9, 9], [[0], [0, 1], [0]])
        got = ask(*start, FAIR, food(1, 3), FAIR, appetite(0, 3), FAIR)
        self.assertEqual(got[4], [0, 2, 1, 4, 1, 4, 1])
        self.assertEqual(got[6], [0, 2, 1, 11, 2, 11, 2])
        self.assertEqual(got[8], [0, 3, 1, 5, 1, 5, 1])


class Levels(unittest.TestCase):
    def test_each_mouth_stands_in_one_level_with_its_share(self):
        numbers = Numbers(52)
        for _ in range(40):
            start = laid(*numbers.laid(8, 8, 12))
            got = ask(*start, FAIR, LEVELS)[-2:]
            shares = fractions(got[0])
            self.assertEqual(got[1][0], 0)
            at, ahead, seen = 1, Fraction(-1), []
            while at < len(got[1]):
                above, below, count = got[1][at:at + 3]
                members = got[1][at + 3:at + 3 + count]
                self.assertEqual([above, below], as_pairs([Fraction(above, below)]))
                self.assertGreater(Fraction(above, below), ahead)
                self.assertTrue(members)
                self.assertIn(members, list(subsets(EVERY)))
                self.assertEqual({shares[mouth] for mouth in members}, {Fraction(above, below)})
                ahead = Fraction(above, below)
                seen += members
                at += 3 + count
            self.assertEqual(at, len(got[1]))
            self.assertEqual(sorted(seen), list(range(len(shares))))


if __name__ == "__main__":
    unittest.main()
