"""can: whether a meal in whole units has given shares, and which set has too much."""

import unittest
from itertools import product

from tests.helper import (
    HIGHEST, Numbers, TOLD, all_shares, appetite, ask, can, can_by_mosts, food, laid, last, meals,
    mosts_by_bounds, reach)


class Can(unittest.TestCase):
    def told(self, foods, appetites, reaches, shares):
        return last(*laid(foods, appetites, reaches), can(shares))

    def held(self, foods, appetites, reaches, rows):
        start = laid(foods, appetites, reaches)
        eaten = all_shares(foods, appetites, reaches)
        mosts = mosts_by_bounds(foods, appetites, reaches)
        got = ask(*start, *[can(shares) for shares in rows])[len(start):]
        for shares, answer in zip(rows, got):
            self.assertEqual(answer == [1], shares in eaten, (foods, appetites, reaches, shares))
            self.assertEqual(answer, can_by_mosts(mosts, shares), (foods, appetites, reaches, shares))

    def test_one_mouth(self):
        for share in range(6):
            self.assertEqual(self.told([5], [9], [[0]], [share]), [1])
            self.assertEqual(self.told([9], [5], [[0]], [share]), [1])
        for share in (6, 7, 100, 101, HIGHEST - 1, HIGHEST):
            self.assertEqual(self.told([5], [9], [[0]], [share]), [0, 0])
            self.assertEqual(self.told([9], [5], [[0]], [share]), [0, 0])

    def test_nothing_can_always_be_eaten(self):
        self.assertEqual(self.told([0], [0, 0], [[], []], [0, 0]), [1])
        self.assertEqual(self.told([9], [9, 9], [[0], [0]], [0, 0]), [1])

    def test_mouths_that_share_a_place(self):
        laid_so = ([7], [5, 5], [[0], [0]])
        self.assertEqual(self.told(*laid_so, [2, 5]), [1])
        self.assertEqual(self.told(*laid_so, [5, 2]), [1])
        self.assertEqual(self.told(*laid_so, [4, 4]), [0, 0, 1])
        self.assertEqual(self.told(*laid_so, [6, 0]), [0, 0])
        self.assertEqual(self.told(*laid_so, [0, 6]), [0, 1])

    def test_the_set_of_least_number_is_told(self):
        # Mouths 0 and 1 together (number 3) stand ahead of mouth 2 alone (number 4).
        laid_so = ([5, 5], [5, 5, 5], [[0], [0], [1]])
        self.assertEqual(self.told(*laid_so, [3, 3, 6]), [0, 0, 1])
        self.assertEqual(self.told(*laid_so, [3, 2, 6]), [0, 2])
        # Mouth 1 alone (number 2) stands ahead of mouths 0 and 1 (number 3).
        self.assertEqual(self.told(*laid_so, [3, 6, 6]), [0, 1])
        self.assertEqual(self.told(*laid_so, [6, 6, 6]), [0, 0])

    def test_only_all_eight_have_too_much(self):
        every = list(range(8))
        laid_so = ([100], [100] * 8, [[0]] * 8)
        self.assertEqual(self.told(*laid_so, [13] * 7 + [9]), [1])
        self.assertEqual(self.told(*laid_so, [13] * 7 + [10]), [0] + every)

    def test_far_above_a_hundred(self):
        every = [list(range(8))] * 8
        laid_so = ([100] * 8, [100] * 8, every)
        self.assertEqual(self.told(*laid_so, [100] * 8), [1])
        for share in (101, 10 ** 9, HIGHEST - 1, HIGHEST):
            self.assertEqual(self.told(*laid_so, [share] * 8), [0, 0])
            for mouth in range(8):
                shares = [100] * 8
                shares[mouth] = share
                self.assertEqual(self.told(*laid_so, shares), [0, mouth])

    def test_a_mouth_that_reaches_nothing(self):
        self.assertEqual(self.told([9], [9, 9], [[], [0]], [0, 9]), [1])
        self.assertEqual(self.told([9], [9, 9], [[], [0]], [1, 0]), [0, 0])

    def test_it_follows_each_change(self):
        asked = can([3, 3])
        start = laid([4, 6], [5, 5], [[0], [0]])
        got = ask(*start, asked, reach(1, [1]), asked, food(0, 2), asked, reach(0, [0, 1]), asked,
                  appetite(1, 2), asked)
        self.assertEqual(got[3::2], [[0, 0, 1], [1], [0, 0], [1], [0, 1]])

    def test_asking_changes_nothing(self):
        start = laid([4, 6], [5, 5], [[0], [0, 1]])
        got = ask(*start, TOLD, can([4, 5]), TOLD, can([5, 5]), TOLD)[3:]
        self.assertEqual(got, [got[0], [1], got[0], [0, 0], got[0]])

    def test_own_count_of_meals_is_the_same(self):
        numbers = Numbers(30)
        for _ in range(40):
            foods, appetites, reaches = numbers.laid(3, 3, 3)
            want = {tuple(shares) for shares in meals(foods, appetites, reaches)}
            self.assertEqual(all_shares(foods, appetites, reaches), want)

    def test_against_all_meals_of_all_smallest_tables(self):
        rows = list(product(range(4), repeat=2))
        reached = ([], [0], [1], [0, 1])
        for foods in product(range(3), repeat=2):
            for appetites in product(range(3), repeat=2):
                for reaches in product(reached, repeat=2):
                    self.held(list(foods), list(appetites), reaches, rows)

    def test_against_all_meals_of_small_tables(self):
        numbers = Numbers(31)
        for _ in range(60):
            foods, appetites, reaches = numbers.laid(3, 4, 3)
            every = list(product(*[range(amount + 2) for amount in appetites]))
            self.held(foods, appetites, reaches, [every[numbers.below(len(every))] for _ in range(60)])
        for _ in range(10):
            foods, appetites, reaches = numbers.laid(4, 3, 5)
            every = list(product(*[range(amount + 2) for amount in appetites]))
            self.held(foods, appetites, reaches, every[:300])

    def test_against_all_sets_of_the_largest(self):
        numbers = Numbers(32)
        for _ in range(4):
            foods, appetites, reaches = numbers.largest()
            mosts = mosts_by_bounds(foods, appetites, reaches)
            rows = [[numbers.below(1 + amount // part) for amount in appetites]
                    for part in (1, 2, 3, 5) for _ in range(20)]
            start = laid(foods, appetites, reaches)
            got = ask(*start, *[can(shares) for shares in rows])[len(start):]
            self.assertEqual(got, [can_by_mosts(mosts, shares) for shares in rows])


if __name__ == "__main__":
    unittest.main()
