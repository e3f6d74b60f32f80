"""Every refusal of every call at its edges, their order, and that nothing changes."""

import unittest

from tests.helper import (
    FAIR, FAR, HIGHEST, LEVELS, LOWEST, TOLD, WHOLE, appetite, ask, binding, can, food, laid, last,
    most, reach, rename, table)

START = laid([5, 0, 100], [7, 100, 0, 3], [[0, 1], [], [2], [0, 1, 2]])
PLACES = 3
MOUTHS = 4
NO_PLACE = [-2, -1, PLACES, PLACES + 1, 8, 9] + FAR
NO_MOUTH = [-2, -1, MOUTHS, MOUTHS + 1, 8, 9] + FAR
NO_AMOUNT = [-100, -2, -1, 101, 102, 1000] + FAR
# Lists that go down, hold a number twice, or hold one that isn't there.
NO_PLACES = [[1, 0], [0, 2, 1], [0, 0], [0, 1, 1], [2, 2], [0, 1, 2, 2], [0, 1, 2, 3],
             [-1, 0], [0, 3], [1, 0, 3], list(range(9)), [0] * 100, list(range(100)),
             [LOWEST, 0, HIGHEST]] + [[place] for place in NO_PLACE]
NO_SETS = [[1, 0], [0, 2, 1], [0, 0], [0, 1, 1], [3, 3], [0, 1, 2, 3, 3], [0, 1, 2, 3, 4],
           [-1, 0], [0, 4], [3, 2, 1, 0], list(range(9)), [3] * 100, list(range(100)),
           [LOWEST, 0, HIGHEST]] + [[mouth] for mouth in NO_MOUTH]


class Refusals(unittest.TestCase):
    def held(self, call, refusal):
        """The call is refused so, and all is as it was."""
        looks = [TOLD, most([0, 1, 2, 3]), binding([0, 3]), can([5, 5, 0, 3]), FAIR, LEVELS, WHOLE]
        got = ask(*START, *looks, call, *looks)[len(START):]
        self.assertEqual(got[len(looks)], [refusal], call)
        self.assertEqual(got[len(looks) + 1:], got[:len(looks)], call)

    def taken(self, call):
        self.assertEqual(last(*START, call), [0], call)

    def test_table_counts(self):
        for count in (0, 9, 10, 100):
            for fine in (1, 4, 8):
                self.held(table([1] * count, [1] * fine), -1)
                self.held(table([1] * fine, [1] * count), -1)
            self.held(table([1] * count, [1] * count), -1)
        self.held(table([], [1] * 9), -1)
        self.held(table([1] * 9, []), -1)
        for count in (1, 8):
            self.taken(table([1] * count, [1]))
            self.taken(table([1], [1] * count))

    def test_table_amounts(self):
        for amount in NO_AMOUNT:
            for at in range(3):
                bad = [1, 2, 3]
                bad[at] = amount
                self.held(table(bad, [4]), -1)
                self.held(table([4], bad), -1)
                self.held(table(bad, bad), -1)
        for amount in (0, 1, 99, 100):
            self.taken(table([amount], [5]))
            self.taken(table([5], [amount]))

    def test_reach_mouth(self):
        for mouth in NO_MOUTH:
            for places in ([], [0], [0, 1, 2]):
                self.held(reach(mouth, places), -2)
        for mouth in range(MOUTHS):
            self.taken(reach(mouth, [0]))

    def test_reach_places(self):
        for places in NO_PLACES:
            for mouth in range(MOUTHS):
                self.held(reach(mouth, places), -3)
        for places in ([], [0], [2], [0, 2], [1, 2], [0, 1, 2]):
            self.taken(reach(1, places))

    def test_reach_tells_the_mouth_first(self):
        for mouth in (-1, MOUTHS, LOWEST, HIGHEST):
            for places in NO_PLACES:
                self.held(reach(mouth, places), -2)

    def test_food_place(self):
        for place in NO_PLACE:
            self.held(food(place, 1), -3)
        for place in range(PLACES):
            self.taken(food(place, 1))

    def test_food_amount(self):
        for amount in NO_AMOUNT:
            for place in range(PLACES):
                self.held(food(place, amount), -4)
        for amount in (0, 1, 99, 100):
            self.taken(food(1, amount))

    def test_food_tells_the_place_first(self):
        for place in NO_PLACE:
            for amount in NO_AMOUNT:
                self.held(food(place, amount), -3)

    def test_appetite_mouth(self):
        for mouth in NO_MOUTH:
            self.held(appetite(mouth, 1), -2)
        for mouth in range(MOUTHS):
            self.taken(appetite(mouth, 1))

    def test_appetite_amount(self):
        for amount in NO_AMOUNT:
            for mouth in range(MOUTHS):
                self.held(appetite(mouth, amount), -4)
        for amount in (0, 1, 99, 100):
            self.taken(appetite(1, amount))

    def test_appetite_tells_the_mouth_first(self):
        for mouth in NO_MOUTH:
            for amount in NO_AMOUNT:
                self.held(appetite(mouth, amount), -2)

    def test_most_set(self):
        for members in NO_SETS:
            self.held(most(members), -2)
        for members in ([], [0], [3], [0, 3], [0, 1, 2, 3]):
            self.assertGreaterEqual(last(*START, most(members))[0], 0)

    def test_binding_set(self):
        for members in NO_SETS:
            self.held(binding(members), -2)
        for members in ([], [0], [3], [0, 3], [0, 1, 2, 3]):
            self.assertEqual(last(*START, binding(members))[0], 0)

    def test_can_counts(self):
        for count in (0, 1, MOUTHS - 1, MOUTHS + 1, 8, 9, 100):
            for share in (0, 1, 101, HIGHEST):
                self.held(can([share] * count), -4)
        self.assertEqual(last(*START, can([0] * MOUTHS)), [1])

    def test_can_shares(self):
        for share in (-1, -2, -100, LOWEST, LOWEST + 1):
            self.held(can([share] * MOUTHS), -4)
            self.held(can([share]), -4)
            for at in range(MOUTHS):
                for other in (0, 1, HIGHEST):
                    bad = [other] * MOUTHS
                    bad[at] = share
                    self.held(can(bad), -4)

    def test_rename_order(self):
        for order in ([], [0], [0, 1, 2], [1, 2, 3], [0, 1, 2, 3, 4], [3, 2, 1, 0, 0], [0, 1, 2, 3, 3],
                      [0, 0, 2, 3], [0, 1, 1, 3], [3, 1, 2, 3], [0, 0, 0, 0], [1, 2, 3, 4],
                      [1, 1, 2, 2], [0, 3, 0, 3], [-1, 1, 2, 3], [-1, 0, 1, 2, 3],
                      list(range(8)), list(range(9)), list(range(100)), [0] * 100):
            self.held(rename(order), -5)
        for number in NO_MOUTH:
            for at in range(MOUTHS):
                order = [3, 1, 0, 2]
                order[at] = number
                self.held(rename(order), -5)
            self.held(rename([number]), -5)
            self.held(rename([number] * MOUTHS), -5)
            self.held(rename([0, 1, 2, 3, number]), -5)
        for order in ([0, 1, 2, 3], [3, 2, 1, 0], [1, 2, 3, 0], [0, 2, 1, 3]):
            self.taken(rename(order))

    def test_edges_with_eight(self):
        start = [table([1] * 8, [1] * 8)]
        every = list(range(8))
        fine = [reach(7, every), food(7, 2), appetite(7, 2), reach(7, [7]), rename(every[::-1])]
        self.assertEqual(ask(*start, *fine), [[0]] * 6)
        bad = [reach(8, every), reach(7, every + [8]), reach(7, [8]), food(8, 2),
               appetite(8, 2), most([8]), most(every + [8]), binding([8]), binding(every + [8]),
               can([0] * 7), can([0] * 9), rename(every[1:] + [8]), rename(every + [8])]
        self.assertEqual(ask(*start, *bad)[1:], [[-2], [-3], [-3], [-3], [-2], [-2], [-2], [-2], [-2],
                                                 [-4], [-4], [-5], [-5]])

    def test_refused_first_of_all(self):
        fresh = [0, 1, 1, 0, 0, 0]
        bad = [table([], [1]), table([1], [101]), reach(1, [0]), reach(0, [0, 0]), reach(0, [1]),
               food(-1, 0), food(0, -1), appetite(1, 0), appetite(0, 101), most([0, 0]),
               binding([1]), can([]), can([-1]), can([0, 0]), rename([]), rename([1]), rename([0, 0])]
        refusals = [-1, -1, -2, -3, -3, -3, -4, -2, -4, -2, -2, -4, -4, -4, -5, -5, -5]
        self.assertEqual(len(bad), len(refusals))
        for call, refusal in zip(bad, refusals):
            self.assertEqual(ask(call, TOLD), [[refusal], fresh])

    def test_many_refusals_change_nothing(self):
        bad = [table([], []), reach(9, []), reach(0, [2, 1]), food(3, 1), food(0, 101),
               appetite(4, 1), appetite(0, -1), most([4]), binding([4]), can([0]),
               rename([0, 1, 2, 2])] * 20
        got = ask(*START, TOLD, *bad, TOLD)
        self.assertEqual(got[-1], got[len(START)])


if __name__ == "__main__":
    unittest.main()
