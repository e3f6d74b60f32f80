"""What each call does to the state, and what it answers.

Each function is handed what was given with its call, in the call's order,
and looks at all its refusals ahead of any change, in the order of the document.
"""

from sharedtable.bounds import bound_by_food, most_of
from sharedtable.checks import is_amount, is_amount_row, is_choice, is_order, is_share_row, is_there
from sharedtable.fairest import levels_of
from sharedtable.mosts import every_set, first_above, mosts_of_sets, sums_of_sets
from sharedtable.wholes import whole_shares


def lay_table(state, given):
    food = given[0]
    appetites = given[1]
    if not is_amount_row(food) or not is_amount_row(appetites):
        return [-1]
    state.food = food
    state.appetites = appetites
    state.reaches = [[] for mouth in appetites]
    return [0]


def put_reach(state, given):
    mouth = given[0]
    places = given[1]
    if not is_there(mouth, len(state.appetites)):
        return [-2]
    if not is_choice(places, len(state.food)):
        return [-3]
    state.reaches[mouth] = places
    return [0]


def put_food(state, given):
    place = given[0]
    amount = given[1]
    if not is_there(place, len(state.food)):
        return [-3]
    if not is_amount(amount):
        return [-4]
    state.food[place] = amount
    return [0]


def put_appetite(state, given):
    mouth = given[0]
    amount = given[1]
    if not is_there(mouth, len(state.appetites)):
        return [-2]
    if not is_amount(amount):
        return [-4]
    state.appetites[mouth] = amount
    return [0]


def tell_all(state, given):
    answer = [0, len(state.food), len(state.appetites)] + state.food + state.appetites
    for places in state.reaches:
        answer.append(len(places))
        answer.extend(places)
    return answer


def tell_most(state, given):
    members = given[0]
    if not is_choice(members, len(state.appetites)):
        return [-2]
    return [most_of(state, members)]


def tell_binding(state, given):
    members = given[0]
    if not is_choice(members, len(state.appetites)):
        return [-2]
    return [0] + bound_by_food(state, members)


def tell_can(state, given):
    shares = given[0]
    if not is_share_row(shares, len(state.appetites)):
        return [-4]
    # A meal has these shares just if no set of mouths has more than its most.
    number = first_above(sums_of_sets(shares), mosts_of_sets(state))
    if number is None:
        return [1]
    return [0] + every_set(len(shares))[number]


def tell_fair(state, given):
    aboves = [0 for appetite in state.appetites]
    belows = [1 for appetite in state.appetites]
    for level in levels_of(state):
        for mouth in level.mouths:
            aboves[mouth] = level.above
            belows[mouth] = level.below
    answer = [0]
    for above, below in zip(aboves, belows):
        answer.extend([above, below])
    return answer


def tell_levels(state, given):
    answer = [0]
    for level in levels_of(state):
        answer.extend([level.above, level.below, len(level.mouths)])
        answer.extend(level.mouths)
    return answer


def tell_whole(state, given):
    return [0] + whole_shares(state)


def rename_mouths(state, given):
    order = given[0]
    if not is_order(order, len(state.appetites)):
        return [-5]
    state.appetites = [state.appetites[mouth] for mouth in order]
    state.reaches = [state.reaches[mouth] for mouth in order]
    return [0]


DOINGS = {
    0: lay_table,
    1: put_reach,
    2: put_food,
    3: put_appetite,
    4: tell_all,
    5: tell_most,
    6: tell_binding,
    7: tell_can,
    8: tell_fair,
    9: tell_levels,
    10: tell_whole,
    11: rename_mouths,
}


def do_call(state, number, given):
    doing = DOINGS[number]
    return doing(state, given)
