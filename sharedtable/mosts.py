"""The most of every set of mouths at once, and what else is told of every set.

What is told of every set stands in the order of the sets' numbers: the number
of a set is the sum of 2 to the power i over its mouths i.
"""

from sharedtable.bounds import all_choices, reached_food


def every_set(count):
    # A mouth's choices stand behind those without it, so they are in the order of their numbers.
    return all_choices(list(range(count)))


def sums_of_sets(shares):
    sums = [0]
    for share in shares:
        sums = sums + [amount + share for amount in sums]
    return sums


def mosts_of_sets(state):
    mosts = []
    for number, members in enumerate(every_set(len(state.appetites))):
        # A choice of members holds them all, or leaves one out: then its appetite
        # stands beside a bound of the others, whose least is known by now.
        bounds = [mosts[number - (1 << mouth)] + state.appetites[mouth] for mouth in members]
        mosts.append(min([reached_food(state, members)] + bounds))
    return mosts


def first_above(sums, mosts):
    for number in range(len(sums)):
        if sums[number] > mosts[number]:
            return number
    return None
