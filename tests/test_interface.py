"""The one function: its list is left as it is, and nothing is kept between two of them."""

import inspect
import unittest

from sharedtable import table as module
from sharedtable.table import answers
from tests.helper import (
    Numbers, TOLD, apart, appetite, ask, flat, food, laid, most, most_by_bounds, reach, row, table)


class Untouched(list):
    """A list that fails as soon as somebody changes it, even for a while."""

    def refuse(self, *args, **kwargs):
        raise AssertionError("the list handed in was changed")

    append = clear = extend = insert = pop = remove = reverse = sort = refuse
    __setitem__ = __delitem__ = __iadd__ = __imul__ = refuse


MANY = flat([
    table([5, 3], [4, 9]), reach(0, [0]), reach(1, [0, 1]), TOLD, most([0, 1]), food(0, 1),
    appetite(1, 2), reach(1, [1]), TOLD, most([1]), table([], []), reach(5, []), food(5, 5),
    appetite(0, 101), most([1, 0]), TOLD])


class Interface(unittest.TestCase):
    def test_its_name_and_argument(self):
        self.assertEqual(list(inspect.signature(answers).parameters), ["calls"])
        self.assertEqual(answers.__module__, "sharedtable.table")
        self.assertIs(module.answers, answers)

    def test_gives_back_a_list_of_whole_numbers(self):
        got = answers(MANY)
        self.assertIs(type(got), list)
        self.assertEqual({type(number) for number in got}, {int})

    def test_the_list_handed_in_is_the_same_afterwards(self):
        handed = list(MANY)
        answers(handed)
        self.assertEqual(handed, MANY)

    def test_the_list_handed_in_is_never_changed(self):
        self.assertEqual(answers(Untouched(MANY)), answers(MANY))

    def test_the_same_list_answers_the_same(self):
        handed = list(MANY)
        first = answers(handed)
        self.assertEqual(answers(handed), first)
        self.assertEqual(answers(list(MANY)), first)

    def test_what_is_given_back_is_new(self):
        first = answers(MANY)
        kept = list(first)
        second = answers(MANY)
        self.assertIsNot(second, first)
        second.clear()
        self.assertEqual(first, kept)
        self.assertEqual(answers(MANY), kept)

    def test_nothing_is_kept_from_lists_asked_before(self):
        fresh = answers([4])
        self.assertEqual(fresh, [6, 0, 1, 1, 0, 0, 0])
        for calls in (MANY, [2, 0, 50], [3, 0, 50], [1, 0, 1, 0], [0, 1, 9, 1, 9], [2, 0, 101]):
            answers(calls)
            self.assertEqual(answers([4]), fresh)
            self.assertEqual(answers([5, 1, 0]), [1, 0])

    def test_each_call_alone(self):
        for call, want in ((table([1], [1]), [1, 0]), (reach(0, []), [1, 0]),
                           (food(0, 1), [1, 0]), (appetite(0, 1), [1, 0]),
                           (TOLD, [6, 0, 1, 1, 0, 0, 0]), (most([]), [1, 0])):
            self.assertEqual(answers(call), want)


class FourHundred(unittest.TestCase):
    def test_of_told_on_the_largest_table(self):
        every = list(range(8))
        calls = laid([100] * 8, [99] * 8, [every] * 8)
        calls = calls + [TOLD] * (400 - len(calls))
        got = ask(*calls)
        self.assertEqual(len(got), 400)
        self.assertEqual(got[:9], [[0]] * 9)
        self.assertEqual(got[9:], [[0, 8, 8] + [100] * 8 + [99] * 8 + row(every) * 8] * 391)

    def test_of_most_on_the_largest_table(self):
        every = list(range(8))
        calls = laid([90] * 8, [100] * 8, [every] * 8)
        calls = calls + [most(every)] * (400 - len(calls))
        self.assertEqual(ask(*calls), [[0]] * 9 + [[720]] * 391)

    def test_of_all_kinds_against_an_own_table(self):
        for start in range(4):
            self.held_against_own(Numbers(start))

    def test_as_many_refusals(self):
        self.assertEqual(answers(most([3]) * 400), [1, -2] * 400)

    def held_against_own(self, numbers):
        foods, appetites, reaches = [0], [0], [[]]
        calls, want = [], []
        while len(calls) < 400:
            kind = numbers.below(12)
            mouth = numbers.below(len(appetites))
            place = numbers.below(len(foods))
            if kind == 0:
                foods, appetites, reaches = numbers.laid(8, 8, 100)
                reaches = [[] for _ in appetites]
                calls.append(table(foods, appetites))
                foods, appetites = list(foods), list(appetites)
            elif kind < 5:
                reaches[mouth] = numbers.some(len(foods))
                calls.append(reach(mouth, reaches[mouth]))
            elif kind < 7:
                foods[place] = numbers.below(101)
                calls.append(food(place, foods[place]))
            elif kind < 9:
                appetites[mouth] = numbers.below(101)
                calls.append(appetite(mouth, appetites[mouth]))
            elif kind < 10:
                calls.append(TOLD)
            else:
                calls.append(most(numbers.some(len(appetites))))
            want.append(self.own_answer(calls[-1], foods, appetites, reaches))
        self.assertEqual(apart(answers(flat(calls))), want)

    def own_answer(self, call, foods, appetites, reaches):
        if call[0] == 4:
            return [0, len(foods), len(appetites)] + foods + appetites + flat(map(row, reaches))
        if call[0] == 5:
            return [most_by_bounds(foods, appetites, reaches, call[2:])]
        return [0]


if __name__ == "__main__":
    unittest.main()
