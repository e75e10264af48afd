"""Fractions: tuples (top, bottom) of two whole numbers in lowest terms, the bottom from 1 on [4]."""

from evenyoke.errors import NoPart


# Python counts True and False among its ints; the program does not count them as numbers [2].
def is_whole(thing):
    return isinstance(thing, int) and not isinstance(thing, bool)


def divisor_of(one, other):
    greater = abs(one)
    lesser = abs(other)
    while lesser > 0:
        rest = greater % lesser
        greater = lesser
        lesser = rest
    return greater


def part_of(top, bottom):
    if not is_whole(top) or not is_whole(bottom) or bottom == 0:
        raise NoPart("a fraction is made of two whole numbers, the second not 0")
    divisor = divisor_of(top, bottom)
    # The sign goes to the top, since a bottom is never below 1.
    if bottom < 0:
        divisor = -divisor
    return (top // divisor, bottom // divisor)


def part_plus(one, other):
    return part_of(one[0] * other[1] + other[0] * one[1], one[1] * other[1])


def part_less(one, other):
    return part_of(one[0] * other[1] - other[0] * one[1], one[1] * other[1])


def part_times(one, other):
    return part_of(one[0] * other[0], one[1] * other[1])


# Both bottoms are above 0, so multiplying by them turns no comparison round.
def is_below(one, other):
    return one[0] * other[1] < other[0] * one[1]


def shared_bottom(parts):
    shared = 1
    for part in parts:
        shared = shared // divisor_of(shared, part[1]) * part[1]
    return shared
