"""What the tests share: calls written out, answers taken apart, own counts."""

from fractions import Fraction
from itertools import combinations, product
from math import gcd

from sharedtable.table import answers

LOWEST = -9223372036854775808
HIGHEST = 9223372036854775807
FAR = [LOWEST, LOWEST + 1, -(10 ** 9), 10 ** 9, HIGHEST - 1, HIGHEST]

TOLD = [4]
FAIR = [8]
LEVELS = [9]
WHOLE = [10]


def row(numbers):
    return [len(numbers)] + list(numbers)


def table(food, appetites):
    return [0] + row(food) + row(appetites)


def reach(mouth, places):
    return [1, mouth] + row(places)


def food(place, amount):
    return [2, place, amount]


def appetite(mouth, amount):
    return [3, mouth, amount]


def most(members):
    return [5] + row(members)


def binding(members):
    return [6] + row(members)


def can(shares):
    return [7] + row(shares)


def rename(order):
    return [11] + row(order)


def flat(calls):
    return [number for call in calls for number in call]


def apart(numbers):
    """The flat answers as one list each; nothing may be left over."""
    parts = []
    at = 0
    while at < len(numbers):
        length = numbers[at]
        part = numbers[at + 1:at + 1 + length]
        assert length >= 1 and len(part) == length, numbers
        parts.append(part)
        at += 1 + length
    return parts


def ask(*calls):
    """The answers to the calls, one list for each."""
    parts = apart(answers(flat(calls)))
    assert len(parts) == len(calls), (calls, parts)
    return parts


def last(*calls):
    return ask(*calls)[-1]


def laid(foods, appetites, reaches):
    """The calls that lay such a table."""
    return [table(foods, appetites)] + [reach(mouth, places) for mouth, places in enumerate(reaches)]


def subsets(members):
    for size in range(len(members) + 1):
        for chosen in combinations(members, size):
            yield list(chosen)


def most_by_bounds(foods, appetites, reaches, members):
    """The least of all bounds, in the document's words."""
    least = None
    for chosen in subsets(members):
        places = {place for mouth in chosen for place in reaches[mouth]}
        bound = sum(foods[place] for place in places)
        bound += sum(appetites[mouth] for mouth in members if mouth not in chosen)
        least = bound if least is None else min(least, bound)
    return least


def meals(foods, appetites, reaches):
    """The shares of every meal in whole units; for small tables only."""
    pairs = [(mouth, place) for mouth, places in enumerate(reaches) for place in places]
    for amounts in product(*[range(min(appetites[m], foods[p]) + 1) for m, p in pairs]):
        shares = [0] * len(appetites)
        left = list(foods)
        for (mouth, place), amount in zip(pairs, amounts):
            shares[mouth] += amount
            left[place] -= amount
        if min(left) >= 0 and all(s <= a for s, a in zip(shares, appetites)):
            yield shares


def most_by_meals(foods, appetites, reaches, members):
    """The greatest sum of the members' shares in any meal."""
    return max(sum(shares[m] for m in members) for shares in meals(foods, appetites, reaches))


def all_shares(foods, appetites, reaches):
    """The shares of every meal in whole units, as a set; food is eaten unit by unit."""
    reached = {(0,) * len(appetites)}
    for place, amount in enumerate(foods):
        eaters = [mouth for mouth, places in enumerate(reaches) if place in places]
        newest = reached
        for _ in range(amount):
            newest = {one_more(shares, mouth) for shares in newest for mouth in eaters
                      if shares[mouth] < appetites[mouth]} - reached
            reached = reached | newest
    return reached


def one_more(shares, mouth):
    return shares[:mouth] + (shares[mouth] + 1,) + shares[mouth + 1:]


def set_of(number):
    """The mouths of the set that has this number."""
    return [mouth for mouth in range(number.bit_length()) if number >> mouth & 1]


def mosts_by_bounds(foods, appetites, reaches):
    """The most of every set, at the set's number."""
    numbers = range(2 ** len(appetites))
    return [most_by_bounds(foods, appetites, reaches, set_of(number)) for number in numbers]


def binding_by_bounds(foods, appetites, reaches, members):
    """All members of the choices with the least bound, in the document's words."""
    least = most_by_bounds(foods, appetites, reaches, members)
    bound = set()
    for chosen in subsets(members):
        places = {place for mouth in chosen for place in reaches[mouth]}
        amount = sum(foods[place] for place in places)
        amount += sum(appetites[mouth] for mouth in members if mouth not in chosen)
        if amount == least:
            bound |= set(chosen)
    return sorted(bound)


def can_by_mosts(mosts, shares):
    for number, amount in enumerate(mosts):
        if sum(shares[mouth] for mouth in set_of(number)) > amount:
            return [0] + set_of(number)
    return [1]


def fairest_by_filling(mosts, count):
    """All shares grow alike; whoever's set has its most by then is left behind."""
    shares = [Fraction(0)] * count
    growing = list(range(count))
    while growing:
        rooms = []
        for number, amount in enumerate(mosts):
            members = set_of(number)
            takers = sum(mouth in growing for mouth in members)
            if takers:
                left = amount - sum(shares[mouth] for mouth in members)
                rooms.append((left / takers, members))
        room = min(rooms)[0]
        full = {mouth for left, members in rooms if left == room for mouth in members}
        for mouth in growing:
            shares[mouth] += room
        growing = [mouth for mouth in growing if mouth not in full]
    return shares


def whole_by_units(mosts, count):
    """Handed out one by one, just as the document says."""
    shares = [0] * count
    left = list(mosts)
    while True:
        takers = [mouth for mouth in range(count)
                  if all(left[number] > 0 for number in range(len(left)) if number >> mouth & 1)]
        if not takers:
            return shares
        taker = min(takers, key=lambda mouth: (shares[mouth], mouth))
        shares[taker] += 1
        for number in range(len(left)):
            left[number] -= number >> taker & 1


def as_pairs(shares):
    return [part for share in shares for part in (share.numerator, share.denominator)]


def as_levels(shares):
    told = []
    for share in sorted(set(shares)):
        members = [mouth for mouth, other in enumerate(shares) if other == share]
        told += [share.numerator, share.denominator] + row(members)
    return told


def fractions(answer):
    """The fractions of an answer of fair; each is to be in lowest terms."""
    assert answer[0] == 0 and len(answer) % 2 == 1, answer
    pairs = list(zip(answer[1::2], answer[2::2]))
    for above, below in pairs:
        assert above >= 0 and below >= 1 and gcd(above, below) == 1, answer
    return [Fraction(above, below) for above, below in pairs]


class Numbers:
    """The same row of numbers every time, so that a failure comes again."""

    def __init__(self, start):
        self.state = start

    def below(self, limit):
        self.state = (self.state * 6364136223846793005 + 1442695040888963407) % 2 ** 64
        return (self.state >> 33) % limit

    def some(self, count):
        return [number for number in range(count) if self.below(2)]

    def order(self, count):
        left = list(range(count))
        return [left.pop(self.below(len(left))) for _ in range(count)]

    def laid(self, most_places, most_mouths, most_amount):
        places = 1 + self.below(most_places)
        mouths = 1 + self.below(most_mouths)
        foods = [self.below(most_amount + 1) for _ in range(places)]
        appetites = [self.below(most_amount + 1) for _ in range(mouths)]
        return foods, appetites, [self.some(places) for _ in range(mouths)]

    def largest(self, most_amount=100):
        foods = [self.below(most_amount + 1) for _ in range(8)]
        appetites = [self.below(most_amount + 1) for _ in range(8)]
        return foods, appetites, [self.some(8) for _ in range(8)]
