"""rename: the mouths in another order, with all that is theirs."""

import unittest
from itertools import permutations

from tests.helper import (
    FAIR, LEVELS, Numbers, TOLD, WHOLE, appetite, ask, binding, can, food, fractions, laid, last, most,
    reach, rename, table)

START = laid([5, 3], [4, 6, 8], [[0], [], [0, 1]])


class Rename(unittest.TestCase):
    def test_the_mouth_at_each_place_of_the_order(self):
        # This order isn't its own inverse: mouth 2 comes first, not mouth 0 third.
        got = ask(*START, rename([2, 0, 1]), TOLD)[len(START):]
        self.assertEqual(got, [[0], [0, 2, 3, 5, 3, 8, 4, 6, 2, 0, 1, 1, 0, 0]])
        got = ask(*START, rename([1, 2, 0]), TOLD)[len(START):]
        self.assertEqual(got, [[0], [0, 2, 3, 5, 3, 6, 8, 4, 0, 2, 0, 1, 1, 0]])

    def test_every_order_of_some(self):
        for order in permutations(range(3)):
            want = laid([5, 3], [[4, 6, 8][mouth] for mouth in order],
                        [[[0], [], [0, 1]][mouth] for mouth in order])
            looks = [TOLD, FAIR, LEVELS, WHOLE, most([0, 2]), binding([0, 1, 2]), can([4, 0, 3])]
            got = ask(*START, rename(list(order)), *looks)[len(START) + 1:]
            self.assertEqual(got, ask(*want, *looks)[len(want):], order)

    def test_the_same_order_changes_nothing(self):
        got = ask(*START, TOLD, rename([0, 1, 2]), TOLD)[len(START):]
        self.assertEqual(got[1:], [[0], got[0]])
        self.assertEqual(ask(rename([0]), TOLD), [[0], [0, 1, 1, 0, 0, 0]])

    def test_twice_in_a_row(self):
        got = ask(*START, rename([2, 0, 1]), rename([2, 0, 1]), TOLD)
        self.assertEqual(got[-1], last(*START, rename([1, 2, 0]), TOLD))
        got = ask(*START, rename([2, 0, 1]), rename([0, 2, 1]), TOLD)
        self.assertEqual(got[-1], last(*START, rename([2, 1, 0]), TOLD))
        got = ask(*START, rename([2, 0, 1]), rename([1, 2, 0]), TOLD)
        self.assertEqual(got[-1], last(*START, TOLD))

    def test_food_stays(self):
        got = ask(*START, rename([2, 1, 0]), food(0, 9), TOLD)[-1]
        self.assertEqual(got[3:5], [9, 3])

    def test_each_mouth_is_changed_by_itself_afterwards(self):
        start = laid([5, 3], [4, 6, 8], [[0]] * 3)
        got = last(*start, rename([2, 0, 1]), reach(0, [1]), appetite(1, 50), TOLD)
        self.assertEqual(got, [0, 2, 3, 5, 3, 8, 50, 6, 1, 1, 1, 0, 1, 0])
        got = last(*start, rename([2, 0, 1]), table([1], [2, 3]), TOLD)
        self.assertEqual(got, [0, 1, 2, 1, 2, 3, 0, 0])

    def test_all_eight(self):
        every = list(range(8))
        order = [3, 0, 7, 1, 6, 2, 5, 4]
        start = laid([1] * 8, [10 + mouth for mouth in every], [[mouth] for mouth in every])
        got = last(*start, rename(order), TOLD)
        want = [0, 8, 8] + [1] * 8 + [10 + mouth for mouth in order]
        self.assertEqual(got, want + [part for mouth in order for part in (1, mouth)])

    def test_each_has_the_same_fairest_share(self):
        numbers = Numbers(70)
        for most_amount in (3, 10, 100):
            for _ in range(30):
                foods, appetites, reaches = numbers.laid(8, 8, most_amount)
                start = laid(foods, appetites, reaches)
                order = numbers.order(len(appetites))
                got = ask(*start, FAIR, rename(order), FAIR)[len(start):]
                ahead, behind = fractions(got[0]), fractions(got[2])
                self.assertEqual(behind, [ahead[mouth] for mouth in order])

    def test_units_go_by_the_new_numbers(self):
        # The unit left over goes to whoever comes first now.
        start = laid([7], [9, 9, 2], [[0]] * 3)
        got = ask(*start, WHOLE, rename([2, 1, 0]), WHOLE)[len(start):]
        self.assertEqual(got, [[0, 3, 2, 2], [0], [0, 2, 3, 2]])


if __name__ == "__main__":
    unittest.main()
