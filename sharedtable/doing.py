"""What each call does to the state, and what it answers.

Each function is handed what was given with its call, in the call's order,
and looks at all its refusals ahead of any change, in the order of the document.
"""

from sharedtable.bounds import most_of
from sharedtable.checks import is_amount, is_amount_row, is_choice, is_there


def lay_table(state, given):
    food = given[0]
    appetites = given[1]
    if not is_amount_row(food) or not is_amount_row(appetites):
        return [-1]
    state.food = food
    state.appetites = appetites
    state.reaches = [[] for mouth in appetites]
    return [0]


def put_reach(state, given):
    mouth = given[0]
    places = given[1]
    if not is_there(mouth, len(state.appetites)):
        return [-2]
    if not is_choice(places, len(state.food)):
        return [-3]
    state.reaches[mouth] = places
    return [0]


def put_food(state, given):
    place = given[0]
    amount = given[1]
    if not is_there(place, len(state.food)):
        return [-3]
    if not is_amount(amount):
        return [-4]
    state.food[place] = amount
    return [0]


def put_appetite(state, given):
    mouth = given[0]
    amount = given[1]
    if not is_there(mouth, len(state.appetites)):
        return [-2]
    if not is_amount(amount):
        return [-4]
    state.appetites[mouth] = amount
    return [0]


def tell_all(state, given):
    answer = [0, len(state.food), len(state.appetites)] + state.food + state.appetites
    for places in state.reaches:
        answer.append(len(places))
        answer.extend(places)
    return answer


def tell_most(state, given):
    members = given[0]
    if not is_choice(members, len(state.appetites)):
        return [-2]
    return [most_of(state, members)]


DOINGS = {
    0: lay_table,
    1: put_reach,
    2: put_food,
    3: put_appetite,
    4: tell_all,
    5: tell_most,
}


def do_call(state, number, given):
    doing = DOINGS[number]
    return doing(state, given)
