"""table, reach, food, appetite and told: what they change and answer."""

import unittest

from sharedtable.table import answers
from tests.helper import (
    FAIR, LEVELS, TOLD, WHOLE, appetite, ask, binding, can, flat, food, last, most, reach, rename, row,
    table)


class BeforeTheFirstCall(unittest.TestCase):
    def test_told(self):
        self.assertEqual(answers([4]), [6, 0, 1, 1, 0, 0, 0])

    def test_most(self):
        self.assertEqual(answers([5, 0]), [1, 0])
        self.assertEqual(answers([5, 1, 0]), [1, 0])
        self.assertEqual(answers([5, 1, 1]), [1, -2])

    def test_binding(self):
        self.assertEqual(answers([6, 0]), [1, 0])
        self.assertEqual(answers([6, 1, 0]), [2, 0, 0])
        self.assertEqual(answers([6, 1, 1]), [1, -2])

    def test_can(self):
        self.assertEqual(answers([7, 1, 0]), [1, 1])
        self.assertEqual(answers([7, 1, 1]), [2, 0, 0])
        self.assertEqual(answers([7, 0]), [1, -4])

    def test_fair_levels_and_whole(self):
        self.assertEqual(answers([8]), [3, 0, 0, 1])
        self.assertEqual(answers([9]), [5, 0, 0, 1, 1, 0])
        self.assertEqual(answers([10]), [2, 0, 0])

    def test_rename(self):
        self.assertEqual(answers([11, 1, 0]), [1, 0])
        self.assertEqual(answers([11, 1, 0, 4]), [1, 0, 6, 0, 1, 1, 0, 0, 0])
        self.assertEqual(answers([11, 1, 1]), [1, -5])

    def test_table_first(self):
        self.assertEqual(answers([0, 1, 7, 1, 9]), [1, 0])

    def test_reach_first(self):
        self.assertEqual(answers([1, 0, 1, 0]), [1, 0])
        self.assertEqual(answers([1, 0, 1, 0, 4]), [1, 0, 7, 0, 1, 1, 0, 0, 1, 0])
        self.assertEqual(answers([1, 1, 0]), [1, -2])
        self.assertEqual(answers([1, 0, 1, 1]), [1, -3])

    def test_food_first(self):
        self.assertEqual(answers([2, 0, 5, 4]), [1, 0, 6, 0, 1, 1, 5, 0, 0])
        self.assertEqual(answers([2, 1, 5]), [1, -3])

    def test_appetite_first(self):
        self.assertEqual(answers([3, 0, 5, 4]), [1, 0, 6, 0, 1, 1, 0, 5, 0])
        self.assertEqual(answers([3, 1, 5]), [1, -2])

    def test_it_can_be_filled_without_table(self):
        calls = [food(0, 6), appetite(0, 4), most([0]), reach(0, [0]), most([0])]
        self.assertEqual(ask(*calls), [[0], [0], [0], [0], [4]])


class Laying(unittest.TestCase):
    def test_table_is_told(self):
        got = ask(table([5, 3, 100], [4, 0]), TOLD)
        self.assertEqual(got, [[0], [0, 3, 2, 5, 3, 100, 4, 0, 0, 0]])

    def test_more_mouths_than_places(self):
        got = ask(table([5], [1, 2, 3]), TOLD)
        self.assertEqual(got, [[0], [0, 1, 3, 5, 1, 2, 3, 0, 0, 0]])

    def test_each_count_from_1_to_8(self):
        for places in range(1, 9):
            for mouths in range(1, 9):
                foods = list(range(10, 10 + places))
                appetites = list(range(50, 50 + mouths))
                got = ask(table(foods, appetites), TOLD)
                want = [0, places, mouths] + foods + appetites + [0] * mouths
                self.assertEqual(got, [[0], want])

    def test_reach_is_told(self):
        got = ask(table([1, 2, 3], [4, 5, 6]), reach(0, [0, 2]), reach(2, [1]), TOLD)
        self.assertEqual(got[:3], [[0], [0], [0]])
        self.assertEqual(got[3], [0, 3, 3, 1, 2, 3, 4, 5, 6, 2, 0, 2, 0, 1, 1])

    def test_eight_reach_all_eight(self):
        every = list(range(8))
        calls = [table([100] * 8, [100] * 8)] + [reach(mouth, every) for mouth in every] + [TOLD]
        self.assertEqual(last(*calls), [0, 8, 8] + [100] * 16 + row(every) * 8)

    def test_reach_takes_the_place_of_what_was_reached(self):
        start = [table([1, 2, 3], [9]), reach(0, [0, 1])]
        head = [0, 3, 1, 1, 2, 3, 9]
        for places in ([], [0], [1, 2], [2], [0, 1, 2]):
            self.assertEqual(last(*start, reach(0, places), TOLD), head + row(places))

    def test_reach_changes_one_mouth_alone(self):
        start = [table([1, 2], [9, 9, 9])] + [reach(mouth, [0]) for mouth in range(3)]
        got = last(*start, reach(1, [1]), TOLD)
        self.assertEqual(got, [0, 2, 3, 1, 2, 9, 9, 9, 1, 0, 1, 1, 1, 0])

    def test_same_places_of_two_mouths_are_kept_apart(self):
        got = last(table([1, 2], [3, 4]), reach(0, [0]), reach(1, [0]), reach(0, [1]), TOLD)
        self.assertEqual(got, [0, 2, 2, 1, 2, 3, 4, 1, 1, 1, 0])

    def test_food_and_appetite_change_one_number(self):
        start = [table([1, 2, 3], [4, 5, 6]), reach(1, [1])]
        got = last(*start, food(2, 100), appetite(0, 0), TOLD)
        self.assertEqual(got, [0, 3, 3, 1, 2, 100, 0, 5, 6, 0, 1, 1, 0])

    def test_table_begins_anew(self):
        start = [table([1, 2, 3], [4, 5, 6])] + [reach(mouth, [0, 1, 2]) for mouth in range(3)]
        for foods, appetites in (([7, 8], [9]), ([1, 2, 3], [4, 5, 6]), ([7] * 8, [9] * 8)):
            got = ask(*start, table(foods, appetites), TOLD, most(range(len(appetites))))
            head = [0, len(foods), len(appetites)] + foods + appetites
            self.assertEqual(got[-2:], [head + [0] * len(appetites), [0]])

    def test_table_takes_away_places_and_mouths(self):
        start = [table([1] * 8, [1] * 8), table([1], [1])]
        calls = [food(1, 0), appetite(1, 0), reach(1, []), reach(0, [1]), most([1])]
        self.assertEqual(ask(*start, *calls)[2:], [[-3], [-2], [-2], [-3], [-2]])


class OneList(unittest.TestCase):
    def test_answers_stand_in_order(self):
        calls = flat([
            table([5, 3], [4, 9]), reach(0, [0]), reach(1, [0, 1]), most([0, 1]), most([0]),
            most([2]), food(0, 1), TOLD, most([0, 1])])
        want = flat([
            [1, 0], [1, 0], [1, 0], [1, 8], [1, 4],
            [1, -2], [1, 0], [12, 0, 2, 2, 1, 3, 4, 9, 1, 0, 2, 0, 1], [1, 4]])
        self.assertEqual(answers(calls), want)

    def test_of_every_sort(self):
        calls = flat([
            table([5, 3], [4, 9, 0]), reach(0, [0]), reach(1, [0]), FAIR, LEVELS, WHOLE,
            binding([0, 1, 2]), can([3, 2, 0]), can([3, 3, 0]), can([0, 0]), rename([2, 0, 1]),
            FAIR, LEVELS, WHOLE, binding([0, 1, 2]), can([0, 3, 3]), rename([0, 1]), most([1, 2])])
        want = flat([
            [1, 0], [1, 0], [1, 0], [7, 0, 5, 2, 5, 2, 0, 1], [10, 0, 0, 1, 1, 2, 5, 2, 2, 0, 1],
            [4, 0, 3, 2, 0], [4, 0, 0, 1, 2], [1, 1], [3, 0, 0, 1], [1, -4], [1, 0],
            [7, 0, 0, 1, 5, 2, 5, 2], [10, 0, 0, 1, 1, 0, 5, 2, 2, 1, 2], [4, 0, 0, 3, 2],
            [4, 0, 0, 1, 2], [3, 0, 1, 2], [1, -5], [1, 5]])
        self.assertEqual(answers(calls), want)


if __name__ == "__main__":
    unittest.main()
