"""What keeps a set of mouths from eating more together.

The most of a set is told through its bounds, not through a meal: with at
most 8 mouths there are at most 256 choices of members, so all are looked at.
"""


def all_choices(members):
    choices = [[]]
    for mouth in members:
        choices = choices + [choice + [mouth] for choice in choices]
    return choices


def reached_food(state, mouths):
    # A place that several mouths reach has its food only once.
    reached = [False for amount in state.food]
    for mouth in mouths:
        for place in state.reaches[mouth]:
            reached[place] = True
    return sum([amount for place, amount in enumerate(state.food) if reached[place]])


def wanted_amount(state, mouths):
    return sum([state.appetites[mouth] for mouth in mouths])


def bound_of(state, members, chosen):
    others = [mouth for mouth in members if mouth not in chosen]
    return reached_food(state, chosen) + wanted_amount(state, others)


def most_of(state, members):
    return min([bound_of(state, members, chosen) for chosen in all_choices(members)])


def bound_by_food(state, members):
    choices = all_choices(members)
    bounds = [bound_of(state, members, chosen) for chosen in choices]
    least = min(bounds)
    tight = [choices[at] for at, bound in enumerate(bounds) if bound == least]
    return [mouth for mouth in members if any([mouth in chosen for chosen in tight])]
