"""What the tests share: calls written out, answers taken apart, own counts."""

from itertools import combinations, product

from sharedtable.table import answers

LOWEST = -9223372036854775808
HIGHEST = 9223372036854775807
FAR = [LOWEST, LOWEST + 1, -(10 ** 9), 10 ** 9, HIGHEST - 1, HIGHEST]

TOLD = [4]


def row(numbers):
    return [len(numbers)] + list(numbers)


def table(food, appetites):
    return [0] + row(food) + row(appetites)


def reach(mouth, places):
    return [1, mouth] + row(places)


def food(place, amount):
    return [2, place, amount]


def appetite(mouth, amount):
    return [3, mouth, amount]


def most(members):
    return [5] + row(members)


def flat(calls):
    return [number for call in calls for number in call]


def apart(numbers):
    """The flat answers as one list each; nothing may be left over."""
    parts = []
    at = 0
    while at < len(numbers):
        length = numbers[at]
        part = numbers[at + 1:at + 1 + length]
        assert length >= 1 and len(part) == length, numbers
        parts.append(part)
        at += 1 + length
    return parts


def ask(*calls):
    """The answers to the calls, one list for each."""
    parts = apart(answers(flat(calls)))
    assert len(parts) == len(calls), (calls, parts)
    return parts


def last(*calls):
    return ask(*calls)[-1]


def laid(foods, appetites, reaches):
    """The calls that lay such a table."""
    return [table(foods, appetites)] + [reach(mouth, places) for mouth, places in enumerate(reaches)]


def subsets(members):
    for size in range(len(members) + 1):
        for chosen in combinations(members, size):
            yield list(chosen)


def most_by_bounds(foods, appetites, reaches, members):
    """The least of all bounds, in the document's words."""
    least = None
    for chosen in subsets(members):
        places = {place for mouth in chosen for place in reaches[mouth]}
        bound = sum(foods[place] for place in places)
        bound += sum(appetites[mouth] for mouth in members if mouth not in chosen)
        least = bound if least is None else min(least, bound)
    return least


def meals(foods, appetites, reaches):
    """The shares of every meal in whole units; for small tables only."""
    pairs = [(mouth, place) for mouth, places in enumerate(reaches) for place in places]
    for amounts in product(*[range(min(appetites[m], foods[p]) + 1) for m, p in pairs]):
        shares = [0] * len(appetites)
        left = list(foods)
        for (mouth, place), amount in zip(pairs, amounts):
            shares[mouth] += amount
            left[place] -= amount
        if min(left) >= 0 and all(s <= a for s, a in zip(shares, appetites)):
            yield shares


def most_by_meals(foods, appetites, reaches, members):
    """The greatest sum of the members' shares in any meal."""
    return max(sum(shares[m] for m in members) for shares in meals(foods, appetites, reaches))


class Numbers:
    """The same row of numbers every time, so that a failure comes again."""

    def __init__(self, start):
        self.state = start

    def below(self, limit):
        self.state = (self.state * 6364136223846793005 + 1442695040888963407) % 2 ** 64
        return (self.state >> 33) % limit

    def some(self, count):
        return [number for number in range(count) if self.below(2)]

    def laid(self, most_places, most_mouths, most_amount):
        places = 1 + self.below(most_places)
        mouths = 1 + self.below(most_mouths)
        foods = [self.below(most_amount + 1) for _ in range(places)]
        appetites = [self.below(most_amount + 1) for _ in range(mouths)]
        return foods, appetites, [self.some(places) for _ in range(mouths)]
