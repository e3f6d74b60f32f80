"""Whole shares: units handed out one by one, always to one with the least so far.

That goes in rounds: those who can have one more all have the same at the
beginning of a round, and each of them gets one, from the first to the last.
Who can't have one more never can later, as what's handed out only grows.
"""

from sharedtable.mosts import mosts_of_sets, sums_of_sets


def can_have_one_more(mosts, shares, mouth):
    sums = sums_of_sets(shares)
    return all([sums[number] < most for number, most in enumerate(mosts) if number >> mouth & 1])


def full_rounds(mosts, shares, takers):
    # So many rounds leave nobody out, so they can be handed out at once.
    sums = sums_of_sets(shares)
    counts = sums_of_sets([1 if mouth in takers else 0 for mouth in range(len(shares))])
    return min([(most - sums[number]) // counts[number] for number, most in enumerate(mosts) if counts[number] > 0])


def whole_shares(state):
    mosts = mosts_of_sets(state)
    shares = [0 for appetite in state.appetites]
    takers = list(range(len(shares)))
    while takers:
        rounds = full_rounds(mosts, shares, takers)
        for mouth in takers:
            shares[mouth] += rounds
        fed = []
        for mouth in takers:
            if can_have_one_more(mosts, shares, mouth):
                shares[mouth] += 1
                fed.append(mouth)
        takers = fed
    return shares
