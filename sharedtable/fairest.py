"""The fairest shares, level by level.

The mouths of a set can't all have more than its most, evenly shared. The set
for which that's least keeps the least share down: its mouths are the first
level. They have their whole most then, so a set of those left can have what it
adds to the most of those done, and the next level is found likewise.
"""

from sharedtable.mosts import every_set, mosts_of_sets


class Level:
    def __init__(self, above, below, mouths):
        self.above = above
        self.below = below
        self.mouths = mouths


def common_part(one, other):
    while other != 0:
        rest = one % other
        one = other
        other = rest
    return one


def level_of(amount, mouths):
    part = common_part(amount, len(mouths))
    return Level(amount // part, len(mouths) // part, mouths)


def comes_ahead(amount, count, best_amount, best_count):
    # Of equal shares the set of more mouths: a level is to hold all who have its share.
    here = amount * best_count
    there = best_amount * count
    return here < there or (here == there and count > best_count)


def done_behind(mosts, counts, done):
    best = len(mosts) - 1
    for number in range(len(mosts)):
        if number != done and number & done == done:
            amount = mosts[number] - mosts[done]
            best_amount = mosts[best] - mosts[done]
            if comes_ahead(amount, counts[number] - counts[done], best_amount, counts[best] - counts[done]):
                best = number
    return best


def levels_of(state):
    sets = every_set(len(state.appetites))
    mosts = mosts_of_sets(state)
    counts = [len(members) for members in sets]
    levels = []
    done = 0
    while done != len(sets) - 1:
        behind = done_behind(mosts, counts, done)
        levels.append(level_of(mosts[behind] - mosts[done], sets[behind - done]))
        done = behind
    return levels
