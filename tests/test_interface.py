"""The one function: its list is left as it is, and nothing is kept between two of them."""

import inspect
import unittest

from sharedtable import table as module
from sharedtable.table import answers
from tests.helper import (
    FAIR, LEVELS, Numbers, TOLD, WHOLE, apart, appetite, as_levels, as_pairs, ask, binding,
    binding_by_bounds, can, can_by_mosts, fairest_by_filling, flat, food, laid, last, most,
    most_by_bounds, mosts_by_bounds, reach, rename, row, table, whole_by_units)


class Untouched(list):
    """A list that fails as soon as somebody changes it, even for a while."""

    def refuse(self, *args, **kwargs):
        raise AssertionError("the list handed in was changed")

    append = clear = extend = insert = pop = remove = reverse = sort = refuse
    __setitem__ = __delitem__ = __iadd__ = __imul__ = refuse


MANY = flat([
    table([5, 3], [4, 9]), reach(0, [0]), reach(1, [0, 1]), TOLD, most([0, 1]), food(0, 1),
    appetite(1, 2), reach(1, [1]), TOLD, most([1]), table([], []), reach(5, []), food(5, 5),
    appetite(0, 101), most([1, 0]), TOLD, binding([0, 1]), can([1, 1]), can([2, 1]), FAIR, LEVELS,
    WHOLE, rename([1, 0]), TOLD, reach(0, [0, 1]), FAIR, rename([0, 0]), can([1]), binding([7]), WHOLE,
    table([7] * 8, [8] * 8), reach(3, [1, 2]), rename([3, 4, 5, 6, 7, 0, 1, 2]), LEVELS, TOLD])


class Interface(unittest.TestCase):
    def test_its_name_and_argument(self):
        self.assertEqual(list(inspect.signature(answers).parameters), ["calls"])
        self.assertEqual(answers.__module__, "sharedtable.table")
        self.assertIs(module.answers, answers)

    def test_gives_back_a_list_of_whole_numbers(self):
        got = answers(MANY)
        self.assertIs(type(got), list)
        self.assertEqual({type(number) for number in got}, {int})

    def test_the_list_handed_in_is_the_same_afterwards(self):
        handed = list(MANY)
        answers(handed)
        self.assertEqual(handed, MANY)

    def test_the_list_handed_in_is_never_changed(self):
        self.assertEqual(answers(Untouched(MANY)), answers(MANY))

    def test_the_same_list_answers_the_same(self):
        handed = list(MANY)
        first = answers(handed)
        self.assertEqual(answers(handed), first)
        self.assertEqual(answers(list(MANY)), first)

    def test_what_is_given_back_is_new(self):
        first = answers(MANY)
        kept = list(first)
        second = answers(MANY)
        self.assertIsNot(second, first)
        second.clear()
        self.assertEqual(first, kept)
        self.assertEqual(answers(MANY), kept)

    def test_nothing_is_kept_from_lists_asked_before(self):
        fresh = answers([4])
        self.assertEqual(fresh, [6, 0, 1, 1, 0, 0, 0])
        for calls in (MANY, [2, 0, 50], [3, 0, 50], [1, 0, 1, 0], [0, 1, 9, 1, 9], [2, 0, 101],
                      [0, 1, 9, 1, 9, 1, 0, 1, 0, 8, 9, 10, 7, 1, 3, 6, 1, 0]):
            answers(calls)
            self.assertEqual(answers([4]), fresh)
            self.assertEqual(answers([5, 1, 0]), [1, 0])
            self.assertEqual(answers([6, 1, 0]), [2, 0, 0])
            self.assertEqual(answers([7, 1, 1]), [2, 0, 0])
            self.assertEqual(answers([8, 9, 10]), [3, 0, 0, 1, 5, 0, 0, 1, 1, 0, 2, 0, 0])

    def test_each_call_alone(self):
        for call, want in ((table([1], [1]), [1, 0]), (reach(0, []), [1, 0]),
                           (food(0, 1), [1, 0]), (appetite(0, 1), [1, 0]),
                           (TOLD, [6, 0, 1, 1, 0, 0, 0]), (most([]), [1, 0]),
                           (binding([]), [1, 0]), (can([0]), [1, 1]), (FAIR, [3, 0, 0, 1]),
                           (LEVELS, [5, 0, 0, 1, 1, 0]), (WHOLE, [2, 0, 0]), (rename([0]), [1, 0])):
            self.assertEqual(answers(call), want)


class Afresh(unittest.TestCase):
    def test_what_is_asked_is_answered_from_what_holds_then(self):
        looks = [TOLD, most([0, 1]), binding([0, 1]), can([3, 4]), FAIR, LEVELS, WHOLE]
        changes = [table([6, 3], [7, 7]), reach(0, [0]), reach(1, [0]), food(0, 9), appetite(0, 2),
                   rename([1, 0]), reach(1, [1]), food(1, 1), table([9], [2, 5]), reach(1, [0]),
                   rename([1, 0]), appetite(1, 100), reach(1, [0]), food(0, 5)]
        got = ask(*[call for change in changes for call in [change] + looks])
        for at in range(0, len(got), 1 + len(looks)):
            self.assertEqual(got[at], [0])
            answered = got[at + 1:at + 1 + len(looks)]
            # The same table, laid at once with nothing asked before, answers the same.
            self.assertEqual(answered, self.laid_at_once(answered[0], looks))

    def laid_at_once(self, told, looks):
        places, mouths = told[1], told[2]
        foods, appetites = told[3:3 + places], told[3 + places:3 + places + mouths]
        reaches, at = [], 3 + places + mouths
        for _ in range(mouths):
            reaches.append(told[at + 1:at + 1 + told[at]])
            at += 1 + told[at]
        start = laid(foods, appetites, reaches)
        return ask(*start, *looks)[len(start):]

    def test_refused_changes_leave_the_answers(self):
        start = laid([6, 3], [7, 7], [[0], [0, 1]])
        looks = [TOLD, most([0, 1]), binding([0, 1]), can([5, 4]), FAIR, LEVELS, WHOLE]
        bad = [table([1], []), reach(2, []), food(2, 1), appetite(0, 101), rename([1, 1])]
        got = ask(*start, *looks, *bad, *looks)[len(start):]
        self.assertEqual(got[:len(looks)], got[-len(looks):])


class FourHundred(unittest.TestCase):
    def test_of_told_on_the_largest_table(self):
        every = list(range(8))
        calls = laid([100] * 8, [99] * 8, [every] * 8)
        calls = calls + [TOLD] * (400 - len(calls))
        got = ask(*calls)
        self.assertEqual(len(got), 400)
        self.assertEqual(got[:9], [[0]] * 9)
        self.assertEqual(got[9:], [[0, 8, 8] + [100] * 8 + [99] * 8 + row(every) * 8] * 391)

    def test_of_most_on_the_largest_table(self):
        every = list(range(8))
        calls = laid([90] * 8, [100] * 8, [every] * 8)
        calls = calls + [most(every)] * (400 - len(calls))
        self.assertEqual(ask(*calls), [[0]] * 9 + [[720]] * 391)

    def test_of_each_other_call_on_the_largest_table(self):
        every = list(range(8))
        appetites = [91, 15, 33, 100, 67, 48, 77, 5]
        start = laid([97, 13, 55, 71, 3, 88, 29, 64], appetites, [every[mouth:mouth + 2] for mouth in every])
        for call in (binding(every), can(appetites), FAIR, LEVELS, WHOLE):
            want = last(*start, call)
            calls = start + [call] * (400 - len(start))
            self.assertEqual(ask(*calls)[len(start):], [want] * 391)

    def test_of_rename_on_the_largest_table(self):
        every = list(range(8))
        start = laid([100] * 8, [10 * mouth for mouth in every], [[mouth] for mouth in every])
        # This order comes back to the first one after eight times.
        calls = start + [rename(every[1:] + [0])] * 384
        self.assertEqual(ask(*calls, TOLD)[-1], last(*start, TOLD))
        self.assertEqual(ask(*calls), [[0]] * 393)

    def test_of_every_sort_on_the_largest_table(self):
        self.held_against_own(Numbers(80), True)

    def test_of_all_kinds_against_an_own_table(self):
        for start in range(8):
            self.held_against_own(Numbers(start), False)

    def test_as_many_refusals(self):
        self.assertEqual(answers(most([3]) * 400), [1, -2] * 400)

    def held_against_own(self, numbers, largest):
        foods, appetites, reaches = [0], [0], [[]]
        calls, want = [], []
        if largest:
            foods, appetites, reaches = numbers.largest()
            calls = laid(foods, appetites, reaches)
            want = [[0] for _ in calls]
        while len(calls) < 400:
            kind = numbers.below(20) if not largest else 1 + numbers.below(19)
            mouth = numbers.below(len(appetites))
            place = numbers.below(len(foods))
            if kind == 0:
                foods, appetites, reaches = numbers.laid(8, 7, 100)
                reaches = [[] for _ in appetites]
                calls.append(table(foods, appetites))
                foods, appetites = list(foods), list(appetites)
            elif kind < 5:
                reaches[mouth] = numbers.some(len(foods))
                calls.append(reach(mouth, reaches[mouth]))
            elif kind == 5:
                foods[place] = numbers.below(101)
                calls.append(food(place, foods[place]))
            elif kind == 6:
                appetites[mouth] = numbers.below(101)
                calls.append(appetite(mouth, appetites[mouth]))
            elif kind < 9:
                order = numbers.order(len(appetites))
                appetites = [appetites[mouth] for mouth in order]
                reaches = [reaches[mouth] for mouth in order]
                calls.append(rename(order))
            else:
                calls.append(self.question(kind, numbers, appetites))
            want.append(self.own_answer(calls[-1], foods, appetites, reaches))
        self.assertEqual({call[0] for call in calls}, set(range(12)))
        self.assertEqual(apart(answers(flat(calls))), want)

    def question(self, kind, numbers, appetites):
        if kind < 11:
            return TOLD
        if kind < 13:
            return most(numbers.some(len(appetites)))
        if kind < 15:
            return binding(numbers.some(len(appetites)))
        if kind < 17:
            part = 1 + numbers.below(4)
            return can([numbers.below(2 + amount // part) for amount in appetites])
        return [FAIR, LEVELS, WHOLE][kind - 17]

    def own_answer(self, call, foods, appetites, reaches):
        laid_so = (foods, appetites, reaches)
        if call[0] == 4:
            return [0, len(foods), len(appetites)] + foods + appetites + flat(map(row, reaches))
        if call[0] == 5:
            return [most_by_bounds(*laid_so, call[2:])]
        if call[0] == 6:
            return [0] + binding_by_bounds(*laid_so, call[2:])
        if 7 <= call[0] <= 10:
            return self.own_sharing(call, mosts_by_bounds(*laid_so), len(appetites))
        return [0]

    def own_sharing(self, call, mosts, count):
        if call[0] == 7:
            return can_by_mosts(mosts, call[2:])
        if call[0] == 8:
            return [0] + as_pairs(fairest_by_filling(mosts, count))
        if call[0] == 9:
            return [0] + as_levels(fairest_by_filling(mosts, count))
        return [0] + whole_by_units(mosts, count)


if __name__ == "__main__":
    unittest.main()
