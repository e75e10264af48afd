import unittest
from fractions import Fraction
from math import gcd, lcm

from evenyoke.errors import NoPart, YokeError
from evenyoke.parts import (divisor_of, in_whole_numbers, is_below, part_less, part_of, part_plus, part_times,
                            shared_bottom, sum_of_parts)
from tests.helpers import SIXTY, TimedCase

GREAT = [SIXTY, -SIXTY, SIXTY - 1, int("123456" * 10), -int("7" * 59 + "2"), 10 ** 59]
SMALL = list(range(-13, 14))


def some_parts():
    parts = [part_of(top, bottom) for top in range(-6, 7) for bottom in range(1, 7)]
    return parts + [part_of(top, abs(bottom)) for top in GREAT for bottom in GREAT]


class PartsCase(TimedCase):
    def assertWhole(self, number):
        self.assertIs(type(number), int)

    def assertPart(self, part, fraction):
        self.assertIs(type(part), tuple)
        self.assertEqual(part, (fraction.numerator, fraction.denominator))
        for number in part:
            self.assertWhole(number)


class TestDivisor(PartsCase):
    def test_both_signs(self):
        for one in (12, -12):
            for other in (18, -18):
                self.assertEqual(divisor_of(one, other), 6)

    def test_of_nought(self):
        self.assertEqual(divisor_of(0, 0), 0)
        for number in (1, 7, SIXTY):
            self.assertEqual(divisor_of(0, number), number)
            self.assertEqual(divisor_of(number, 0), number)
            self.assertEqual(divisor_of(0, -number), number)
            self.assertEqual(divisor_of(-number, 0), number)

    def test_all_small_and_great(self):
        for one in SMALL + GREAT:
            for other in SMALL + GREAT:
                self.assertEqual(divisor_of(one, other), gcd(one, other), (one, other))
                self.assertWhole(divisor_of(one, other))

    def test_sixty_figures_with_a_great_divisor(self):
        shared = 10 ** 40 + 7
        self.assertEqual(divisor_of(shared * (10 ** 19), -shared * (10 ** 19 - 1)), shared)


class TestMaking(PartsCase):
    def test_lowest_terms(self):
        self.assertEqual(part_of(6, 4), (3, 2))
        self.assertEqual(part_of(4, 2), (2, 1))
        self.assertEqual(part_of(5, 7), (5, 7))

    def test_bottom_below_nought(self):
        self.assertEqual(part_of(6, -4), (-3, 2))
        self.assertEqual(part_of(-6, -4), (3, 2))
        self.assertEqual(part_of(-6, 4), (-3, 2))

    def test_top_of_nought(self):
        for bottom in (1, -1, 9, -9, SIXTY, -SIXTY):
            self.assertPart(part_of(0, bottom), Fraction(0))

    def test_all_small_and_great(self):
        for top in SMALL + GREAT:
            for bottom in SMALL + GREAT:
                if bottom != 0:
                    self.assertPart(part_of(top, bottom), Fraction(top, bottom))

    def test_bottom_of_nought_is_refused(self):
        for top in (0, 1, -1, SIXTY):
            with self.assertRaises(NoPart) as caught:
                part_of(top, 0)
            self.assertIsInstance(caught.exception, YokeError)

    def test_what_is_no_whole_number_is_refused(self):
        for top, bottom in [(True, 2), (False, 1), (1, True), (1, False), ("1", 2), (1, None), (1.0, 2)]:
            with self.assertRaises(NoPart):
                part_of(top, bottom)


class TestReckoning(PartsCase):
    def test_plain_ones(self):
        self.assertEqual(part_plus((1, 6), (1, 3)), (1, 2))
        self.assertEqual(part_plus((1, 2), (-1, 2)), (0, 1))
        self.assertEqual(part_less((1, 6), (1, 3)), (-1, 6))
        self.assertEqual(part_less((5, 6), (1, 3)), (1, 2))
        self.assertEqual(part_times((2, 3), (3, 4)), (1, 2))
        self.assertEqual(part_times((-2, 3), (0, 1)), (0, 1))

    def test_all_of_all(self):
        for one in some_parts():
            for other in some_parts():
                first = Fraction(one[0], one[1])
                second = Fraction(other[0], other[1])
                self.assertPart(part_plus(one, other), first + second)
                self.assertPart(part_less(one, other), first - second)
                self.assertPart(part_times(one, other), first * second)
                self.assertIs(is_below(one, other), first < second)

    def test_what_was_told_is_taken_again(self):
        part = (1, SIXTY)
        expected = Fraction(1, SIXTY)
        for step in range(6):
            part = part_times(part_plus(part, (SIXTY - 1, SIXTY)), part)
            expected = (expected + Fraction(SIXTY - 1, SIXTY)) * expected
            self.assertPart(part, expected)


class TestBelow(PartsCase):
    def test_either_way_round(self):
        for less, more in [((1, 3), (1, 2)), ((-1, 2), (-1, 3)), ((-1, 2), (0, 1)), ((2, 1), (9, 4)),
                           ((SIXTY - 1, SIXTY), (1, 1)), ((1, SIXTY), (1, SIXTY - 1))]:
            self.assertIs(is_below(less, more), True)
            self.assertIs(is_below(more, less), False)

    def test_of_one_with_itself(self):
        for part in some_parts():
            self.assertIs(is_below(part, part), False)


class TestSharedBottom(PartsCase):
    def test_of_none(self):
        self.assertEqual(shared_bottom([]), 1)
        self.assertWhole(shared_bottom([]))

    def test_of_one(self):
        for part in [(0, 1), (5, 1), (-3, 4), (1, SIXTY)]:
            self.assertEqual(shared_bottom([part]), part[1])

    def test_of_several(self):
        self.assertEqual(shared_bottom([(1, 4), (5, 6)]), 12)
        self.assertEqual(shared_bottom([(1, 2), (1, 4), (3, 4)]), 4)
        self.assertEqual(shared_bottom([(1, 2), (1, 3), (-1, 5), (0, 1)]), 30)
        bottoms = [SIXTY, 10 ** 59, SIXTY - 1, 12]
        self.assertEqual(shared_bottom([(1, bottom) for bottom in bottoms]), lcm(*bottoms))

    def test_of_three_hundred(self):
        bottoms = [10 ** 59 + step for step in range(300)]
        self.assertEqual(shared_bottom([(1, bottom) for bottom in bottoms]), lcm(*bottoms))

    def test_list_stays_and_may_be_changed_behind(self):
        parts = [(1, 4), (5, 6), (-1, 10)]
        self.assertEqual(shared_bottom(parts), 60)
        self.assertEqual(parts, [(1, 4), (5, 6), (-1, 10)])
        parts.append((1, 7))
        self.assertEqual(shared_bottom(parts), 420)
        parts.clear()
        self.assertEqual(shared_bottom(parts), 1)


class TestSum(PartsCase):
    def test_of_none_and_one(self):
        self.assertPart(sum_of_parts([]), Fraction(0))
        for part in some_parts():
            self.assertEqual(sum_of_parts([part]), part)

    def test_of_two(self):
        for one in some_parts():
            for other in some_parts():
                self.assertEqual(sum_of_parts([one, other]), part_plus(one, other))

    def test_of_many(self):
        parts = some_parts()
        for size in range(len(parts)):
            self.assertPart(sum_of_parts(parts[:size]), sum((Fraction(*part) for part in parts[:size]), Fraction(0)))


class TestInWholeNumbers(PartsCase):
    def test_of_none(self):
        self.assertEqual(in_whole_numbers([]), [])

    def test_they_stand_as_the_fractions_do(self):
        parts = some_parts() + [(1, SIXTY), (1, SIXTY - 1), (2, SIXTY), (-1, SIXTY), (-1, SIXTY - 1)]
        numbers = in_whole_numbers(parts)
        for one, first in zip(parts, numbers):
            self.assertWhole(first)
            for other, second in zip(parts, numbers):
                self.assertEqual(first < second, is_below(one, other))


if __name__ == "__main__":
    unittest.main()
