"""Fractions: tuples (top, bottom) of two whole numbers in lowest terms, the bottom from 1 on [4]."""

from evenyoke.errors import NoPart


# Python counts True and False among its ints; the program does not count them as numbers [2].
def is_whole(thing):
    return isinstance(thing, int) and not isinstance(thing, bool)


def divisor_of(one, other):
    greater = abs(one)
    lesser = abs(other)
    while lesser > 0:
        rest = greater % lesser
        greater = lesser
        lesser = rest
    return greater


def part_of(top, bottom):
    if not is_whole(top) or not is_whole(bottom) or bottom == 0:
        raise NoPart("a fraction is made of two whole numbers, the second not 0")
    divisor = divisor_of(top, bottom)
    # The sign goes to the top, since a bottom is never below 1.
    if bottom < 0:
        divisor = -divisor
    return (top // divisor, bottom // divisor)


def part_plus(one, other):
    return part_of(one[0] * other[1] + other[0] * one[1], one[1] * other[1])


def part_less(one, other):
    return part_of(one[0] * other[1] - other[0] * one[1], one[1] * other[1])


def part_times(one, other):
    return part_of(one[0] * other[0], one[1] * other[1])


# Both bottoms are above 0, so multiplying by them turns no comparison round.
def is_below(one, other):
    return one[0] * other[1] < other[0] * one[1]


def shared_bottom(parts):
    shared = 1
    for part in parts:
        shared = shared // divisor_of(shared, part[1]) * part[1]
    return shared


# As part_plus, of two fractions in lowest terms; but numbers are divided step by step only down from the lesser
# bottom, where part_plus does it from the product of both.
def plus_in_lowest(one, other):
    shared = divisor_of(one[1], other[1])
    top = one[0] * (other[1] // shared) + other[0] * (one[1] // shared)
    # What divides the top and the product of the bottoms divides what the bottoms share.
    extra = divisor_of(top, shared)
    return (top // extra, one[1] // shared * (other[1] // extra))


def sum_of_parts(parts):
    total = (0, 1)
    for part in parts:
        total = plus_in_lowest(total, part)
    return total


# Whole numbers that stand to one another as the fractions do: less, equal or greater. Two fractions that are not
# the same are at least 1 apart when multiplied by both bottoms, so the square of the greatest bottom parts all.
def in_whole_numbers(parts):
    greatest = max([part[1] for part in parts], default=1)
    return [part[0] * greatest * greatest // part[1] for part in parts]
