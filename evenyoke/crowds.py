"""Crowds: the hands that bear one load, with the chores that are dealt among them alone [8, 9, 10].

A crowd is a tuple (hands, chores) of two rising lists of numbers.
"""

from evenyoke.parts import part_of
from evenyoke.pours import pour_all


# The ties of a pour from the chores of a crowd to its hands, by their places in the crowd's lists.
# Doers outside the crowd bear more than those within, so they get nothing of its chores.
def ties_in(doers, crowd):
    place_of = dict([(hand, place) for place, hand in enumerate(crowd[0])])
    ties = []
    for give, chore in enumerate(crowd[1]):
        ties.extend([(give, place_of[hand]) for hand in doers[chore] if hand in place_of])
    return ties


def work_in(works, crowd):
    return sum([works[chore] for chore in crowd[1]])


# Each hand takes as much as each would have if all bore the same. Works are multiplied by the number of hands,
# so that this is a whole number.
def pour_in(works, doers, crowd):
    many = len(crowd[0])
    gives = [works[chore] * many for chore in crowd[1]]
    return pour_all(gives, [work_in(works, crowd)] * many, ties_in(doers, crowd))


def chosen(things, marks, wanted):
    return [thing for thing, mark in zip(things, marks) if mark == wanted]


# The crowds from the greatest load down. Where not all can be poured, the near hands are just those that bear more
# than the rest, and the near chores have no other doers: so both sides are dealt by themselves. There is a hand on
# either side, so there are fewer than twice as many pours as hands.
def crowds_by(works, doers, many):
    crowds = []
    uncut = [(list(range(many)), list(range(len(works))))] if many > 0 else []
    while len(uncut) > 0:
        crowd = uncut.pop()
        near = pour_in(works, doers, crowd)[1]
        if any(near[1]):
            for wanted in (False, True):
                uncut.append((chosen(crowd[0], near[1], wanted), chosen(crowd[1], near[0], wanted)))
        else:
            crowds.append(crowd)
    return crowds


# Rows as doers has them, with what is sent in each crowd along its ties, and nothing where there is no tie.
def rows_from(doers, crowds, sents, nothing):
    rows = [[nothing] * len(hands) for hands in doers]
    for crowd, sent in zip(crowds, sents):
        for tie, amount in zip(ties_in(doers, crowd), sent):
            chore = crowd[1][tie[0]]
            rows[chore][doers[chore].index(crowd[0][tie[1]])] = amount
    return rows


def layers_by(works, doers, many):
    crowds = crowds_by(works, doers, many)
    return [(part_of(work_in(works, crowd), len(crowd[0])), crowd[0], crowd[1]) for crowd in crowds]


def loads_by(works, doers, many):
    loads = [(0, 1)] * many
    for layer in layers_by(works, doers, many):
        for hand in layer[1]:
            loads[hand] = layer[0]
    return loads
