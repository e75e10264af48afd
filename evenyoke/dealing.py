"""Dealings: an even one is dealt, and of any list of shares it is told how even it is [11, 12]."""

from evenyoke.crowds import crowds_by, pour_in, rows_from
from evenyoke.parts import in_whole_numbers, is_below, part_of, part_times, sum_of_parts


def deal_evenly(works, doers, many):
    crowds = crowds_by(works, doers, many)
    sents = [shares_in(works, doers, crowd) for crowd in crowds]
    return rows_from(doers, crowds, sents, (0, 1))


def shares_in(works, doers, crowd):
    sent = pour_in(works, doers, crowd)[0]
    return [part_of(amount, len(crowd[0])) for amount in sent]


def loads_of_shares(doers, many, shares):
    shares_at = [[] for hand in range(many)]
    for hands, row in zip(doers, shares):
        for hand, share in zip(hands, row):
            shares_at[hand].append(share)
    return [sum_of_parts(parts) for parts in shares_at]


# A load may have thousands of figures, and doers are compared often: so the loads are put in order once.
def unrest_of(doers, many, shares):
    heights = in_whole_numbers(loads_of_shares(doers, many, shares))
    for chore, hands in enumerate(doers):
        for one, share in zip(hands, shares[chore]):
            lower = [other for other in hands if heights[other] < heights[one]]
            if share[0] > 0 and len(lower) > 0:
                return (chore, one, lower[0])
    return None


def overtime_above(loads, level):
    above = [load for load in loads if is_below(level, load)]
    return sum_of_parts(above + [part_times(level, (-len(above), 1))])
