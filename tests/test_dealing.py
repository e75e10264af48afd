import random
import unittest
from fractions import Fraction
from math import gcd, prod

from evenyoke.crowds import loads_by
from evenyoke.dealing import deal_evenly, loads_of_shares, overtime_above, unrest_of
from evenyoke.parts import part_of
from tests.helpers import (SIXTY, ChoresCase, fraction_of, fractions_of, loads_by_rows, some_chores, steep_chores,
                           wide_chores)

HUGE = 10 ** 300 - 1


def part_from(fraction):
    return (fraction.numerator, fraction.denominator)


def random_dealing(rng, works, doers):
    """Shares that come to the works, seldom even."""
    shares = []
    for work, hands in zip(works, doers):
        weights = [rng.choice([0, 0, 1, 2, 7]) for hand in hands]
        if sum(weights) == 0:
            weights[rng.randrange(len(weights))] = 1
        shares.append([part_of(work * weight, sum(weights)) for weight in weights])
    return shares


def random_shares(rng, doers, highest):
    """Shares that need not come to any work, many of them 0 and many alike."""
    return [[rng.choice([(0, 1), (1, 1), part_of(rng.randrange(highest + 1), rng.randrange(1, highest + 1))])
             for hand in hands] for hands in doers]


def great_part(rng):
    return part_of(rng.randrange(10 ** 300), rng.randrange(10 ** 299, 10 ** 300))


def unrest_by_trial(doers, many, shares):
    loads = loads_by_rows(doers, many, [fractions_of(row) for row in shares])
    unrests = [(chore, one, other)
               for chore, hands in enumerate(doers)
               for one, share in zip(hands, shares[chore])
               for other in hands
               if share[0] > 0 and loads[one] > loads[other]]
    return min(unrests, default=None)


def overtime_by_trial(loads, level):
    return sum(max(fraction_of(load) - fraction_of(level), Fraction(0)) for load in loads)


class DealingCase(ChoresCase):
    def deal(self, works, doers, many):
        shares = self.ask(deal_evenly, works, doers, many)
        self.assertDealing(works, doers, many, shares)
        return shares

    def unrest(self, doers, many, shares):
        told = self.ask(unrest_of, doers, many, shares)
        if told is not None:
            self.assertIs(type(told), tuple)
            self.assertEqual(len(told), 3)
            for number in told:
                self.assertWhole(number)
        return told

    def loads(self, doers, many, shares):
        told = self.ask(loads_of_shares, doers, many, shares)
        self.assertIs(type(told), list)
        self.assertEqual(len(told), many)
        for load in told:
            self.assertPartFromNought(load)
        return told

    def overtime(self, loads, level):
        told = self.ask(overtime_above, loads, level)
        self.assertPartFromNought(told)
        return told


class TestDealEvenly(DealingCase):
    def test_no_chores(self):
        self.assertEqual(self.deal([], [], 0), [])
        self.assertEqual(self.deal([], [], 3), [])

    def test_one_chore(self):
        self.assertEqual(self.deal([7], [[0]], 1), [[(7, 1)]])
        self.assertEqual(self.deal([7], [[2]], 4), [[(7, 1)]])
        self.assertEqual(self.deal([7], [[1, 3]], 4), [[(7, 2), (7, 2)]])
        self.assertEqual(self.deal([8], [[0, 1, 2]], 3), [[(8, 3)] * 3])
        self.assertEqual(self.deal([SIXTY], [[0, 1]], 2), [[(SIXTY, 2)] * 2])

    def test_where_one_dealing_alone_is_even(self):
        self.assertEqual(self.deal([6, 1, 2], [[0], [0, 1], [1, 2]], 3),
                         [[(6, 1)], [(0, 1), (1, 1)], [(1, 2), (3, 2)]])
        self.assertEqual(self.deal([3, 1, 3], [[0, 1], [1, 2], [2, 3]], 4),
                         [[(7, 4), (5, 4)], [(1, 2), (1, 2)], [(5, 4), (7, 4)]])

    def test_many(self):
        for works, doers, many in some_chores(random.Random(51), 300, 9, 8):
            shares = self.deal(works, doers, many)
            self.assertEqual(self.loads(doers, many, shares), loads_by(works, doers, many))
            self.assertIsNone(self.unrest(doers, many, shares))

    def test_forty_chores_and_forty_hands(self):
        rng = random.Random(52)
        for turn in range(5):
            works, doers, many = wide_chores(rng)
            shares = self.deal(works, doers, many)
            self.assertEqual(self.loads(doers, many, shares), loads_by(works, doers, many))
            self.assertIsNone(self.unrest(doers, many, shares))
        self.deal(*steep_chores())
        self.deal(*wide_chores(rng, doers_in_all=1600))
        self.deal(*wide_chores(rng, many_chores=50, many_hands=45, doers_in_all=700, figures=90))


class TestLoadsOfShares(DealingCase):
    def test_of_none(self):
        self.assertEqual(self.loads([], 0, []), [])
        self.assertEqual(self.loads([], 3, []), [(0, 1)] * 3)

    def test_shares_that_come_to_no_work(self):
        self.assertEqual(self.loads([[0, 1], [1, 3]], 4, [[(1, 2), (1, 3)], [(1, 6), (5, 1)]]),
                         [(1, 2), (1, 2), (0, 1), (5, 1)])
        self.assertEqual(self.loads([[0], [0], [0]], 1, [[(1, 6)], [(1, 3)], [(1, 2)]]), [(1, 1)])
        self.assertEqual(self.loads([[0, 1]], 2, [[(0, 1), (0, 1)]]), [(0, 1), (0, 1)])

    def test_many(self):
        rng = random.Random(53)
        for works, doers, many in some_chores(rng, 200):
            shares = random_shares(rng, doers, rng.choice([2, 6, 60, HUGE]))
            loads = loads_by_rows(doers, many, [fractions_of(row) for row in shares])
            self.assertEqual(fractions_of(self.loads(doers, many, shares)), loads)

    def test_tops_and_bottoms_of_three_hundred_figures(self):
        self.assertEqual(self.loads([[0], [0]], 1, [[(1, HUGE)], [(HUGE - 1, HUGE)]]), [(1, 1)])
        self.assertEqual(self.loads([[0], [0]], 1, [[(1, HUGE)], [(1, HUGE - 1)]]),
                         [(2 * HUGE - 1, HUGE * (HUGE - 1))])

    def test_forty_of_three_hundred_figures_at_each_hand(self):
        rng = random.Random(54)
        for many, chores in [(7, 40), (40, 7), (40, 40)]:
            doers = [list(range(many)) for chore in range(chores)]
            shares = [[great_part(rng) for hand in hands] for hands in doers]
            loads = self.loads(doers, many, shares)
            for hand in range(many):
                product = prod(row[hand][1] for row in shares)
                total = sum(row[hand][0] * (product // row[hand][1]) for row in shares)
                self.assertTrue(loads[hand][0] * product == total * loads[hand][1])


class TestUnrest(DealingCase):
    def test_of_none(self):
        self.assertIsNone(self.unrest([], 0, []))
        self.assertIsNone(self.unrest([], 3, []))

    def test_of_an_even_one(self):
        self.assertIsNone(self.unrest([[0, 1]], 2, [[(1, 2), (1, 2)]]))
        self.assertIsNone(self.unrest([[0, 1]], 2, [[(0, 1), (0, 1)]]))
        self.assertIsNone(self.unrest([[0], [0, 1]], 2, [[(6, 1)], [(0, 1), (1, 1)]]))
        self.assertIsNone(self.unrest([[0], [1]], 3, [[(6, 1)], [(1, 1)]]))

    def test_a_greater_load_alone_is_no_unrest(self):
        doers = [[0], [0, 1]]
        self.assertIsNone(self.unrest(doers, 2, [[(9, 1)], [(0, 1), (2, 1)]]))
        self.assertEqual(self.unrest(doers, 2, [[(9, 1)], [(1, HUGE), (2, 1)]]), (1, 0, 1))

    def test_the_other_need_have_no_share(self):
        self.assertEqual(self.unrest([[0, 1]], 2, [[(1, 1), (0, 1)]]), (0, 0, 1))
        self.assertEqual(self.unrest([[0, 1]], 2, [[(0, 1), (1, 1)]]), (0, 1, 0))

    def test_the_least_chore_of_several(self):
        doers = [[0, 1], [2, 3], [2, 4]]
        self.assertEqual(self.unrest(doers, 5, [[(1, 1), (1, 1)], [(2, 1), (1, 1)], [(5, 1), (0, 1)]]), (1, 2, 3))
        self.assertEqual(self.unrest(doers, 5, [[(1, 1), (2, 1)], [(2, 1), (1, 1)], [(5, 1), (0, 1)]]), (0, 1, 0))

    def test_the_least_one_and_the_least_other_of_several(self):
        doers = [[0, 1, 2, 3]]
        self.assertEqual(self.unrest(doers, 4, [[(1, 1), (3, 1), (2, 1), (4, 1)]]), (0, 1, 0))
        self.assertEqual(self.unrest(doers, 4, [[(2, 1), (3, 1), (1, 1), (1, 1)]]), (0, 0, 2))
        self.assertEqual(self.unrest(doers, 4, [[(4, 1), (3, 1), (2, 1), (1, 1)]]), (0, 0, 1))
        self.assertEqual(self.unrest([[1, 3, 5]], 6, [[(2, 1), (3, 1), (2, 1)]]), (0, 3, 1))

    def test_loads_that_are_hardly_apart(self):
        for one, other in [((1, HUGE - 1), (1, HUGE)), ((HUGE, HUGE - 1), (HUGE + 1, HUGE)),
                           ((HUGE, HUGE - 1), (HUGE - 1, HUGE - 2)), ((HUGE, 1), (HUGE - 1, 1))]:
            self.assertEqual(self.unrest([[0, 1]], 2, [[one, other]]), unrest_by_trial([[0, 1]], 2, [[one, other]]))
            self.assertEqual(self.unrest([[0, 1]], 2, [[other, one]]), unrest_by_trial([[0, 1]], 2, [[other, one]]))
            self.assertIsNone(self.unrest([[0, 1]], 2, [[one, one]]))

    def test_many(self):
        rng = random.Random(55)
        for works, doers, many in some_chores(rng, 300):
            for shares in (random_shares(rng, doers, rng.choice([1, 2, 6, HUGE])),
                           random_dealing(rng, works, doers)):
                self.assertEqual(self.unrest(doers, many, shares), unrest_by_trial(doers, many, shares))

    def test_an_even_dealing_that_is_moved_a_little(self):
        rng = random.Random(56)
        for works, doers, many in some_chores(rng, 100):
            shares = deal_evenly(works, doers, many)
            wide = [chore for chore, hands in enumerate(doers) if len(hands) > 1]
            if wide:
                chore = rng.choice(wide)
                given, got = rng.sample(range(len(doers[chore])), 2)
                if shares[chore][given][0] > 0:
                    moved = fraction_of(shares[chore][given]) / HUGE
                    shares[chore][given] = part_from(fraction_of(shares[chore][given]) - moved)
                    shares[chore][got] = part_from(fraction_of(shares[chore][got]) + moved)
                    told = self.unrest(doers, many, shares)
                    self.assertIsNotNone(told)
                    self.assertEqual(told, unrest_by_trial(doers, many, shares))

    def test_forty_of_three_hundred_figures_at_each_hand(self):
        rng = random.Random(57)
        doers = [list(range(40)) for chore in range(40)]
        row = [great_part(rng) for chore in doers]
        even = [[row[chore]] * 40 for chore in range(40)]
        self.assertIsNone(self.unrest(doers, 40, even))
        even[39][0] = part_from(fraction_of(even[39][0]) + Fraction(1, HUGE))
        self.assertEqual(self.unrest(doers, 40, even), (0, 0, 1))
        self.unrest(doers, 40, [[great_part(rng) for hand in hands] for hands in doers])


class TestOvertime(DealingCase):
    def test_of_no_loads(self):
        for level in [(0, 1), (3, 2), (-3, 2), (HUGE, HUGE - 1)]:
            self.assertEqual(self.overtime([], level), (0, 1))

    def test_below_at_and_above_the_level(self):
        self.assertEqual(self.overtime([(1, 1)], (3, 2)), (0, 1))
        self.assertEqual(self.overtime([(3, 2)], (3, 2)), (0, 1))
        self.assertEqual(self.overtime([(2, 1)], (3, 2)), (1, 2))
        self.assertEqual(self.overtime([(1, 1), (3, 2), (2, 1), (7, 3), (0, 1)], (3, 2)), (4, 3))

    def test_above_nought_it_is_the_sum(self):
        self.assertEqual(self.overtime([(1, 6), (1, 3), (1, 2), (0, 1)], (0, 1)), (1, 1))

    def test_levels_and_loads_below_nought(self):
        self.assertEqual(self.overtime([(0, 1), (1, 1), (-2, 1), (-1, 1)], (-1, 1)), (3, 1))
        self.assertEqual(self.overtime([(-1, 2), (-3, 2)], (-1, 1)), (1, 2))

    def test_many(self):
        rng = random.Random(58)
        for turn in range(300):
            most = rng.choice([1, 3, 10, HUGE])
            loads = [part_of(rng.randrange(most + 1), rng.randrange(1, most + 1)) for k in range(rng.randrange(9))]
            for level in [part_of(rng.randrange(most + 1), rng.randrange(1, most + 1))] + loads[:2]:
                self.assertEqual(fraction_of(self.overtime(loads, level)), overtime_by_trial(loads, level))

    def test_three_hundred_loads_of_three_hundred_figures(self):
        rng = random.Random(59)
        loads = [great_part(rng) for k in range(300)]
        level = great_part(rng)
        above = [load for load in loads if fraction_of(load) > fraction_of(level)]
        told = overtime_above(loads, level)
        self.assertEqual(gcd(told[0], told[1]), 1)
        product = prod(load[1] for load in above) * level[1]
        total = sum(load[0] * (product // load[1]) for load in above) - len(above) * level[0] * (product // level[1])
        self.assertTrue(told[0] * product == total * told[1])
        self.assertEqual(self.overtime([(HUGE, HUGE - 1)] * 300, (HUGE - 1, HUGE)),
                         part_of(300 * (2 * HUGE - 1), HUGE * (HUGE - 1)))

    def test_loads_told_are_taken_again(self):
        rng = random.Random(60)
        works, doers, many = wide_chores(rng)
        shares = [[great_part(rng) for hand in hands] for hands in doers]
        loads = self.loads(doers, many, shares)
        self.assertEqual(overtime_above(loads, max(loads, key=fraction_of)), (0, 1))
        overtime_above(loads, (1, 2))


class TestLeastOvertime(DealingCase):
    def assertLeast(self, rng, works, doers, many, turns):
        loads = loads_by(works, doers, many)
        for turn in range(turns):
            others = self.loads(doers, many, random_dealing(rng, works, doers))
            between = part_of(sum(works), many * rng.randrange(1, 4))
            for level in [(0, 1), between, rng.choice(loads), rng.choice(others), max(loads, key=fraction_of)]:
                least, other = self.overtime(loads, level), self.overtime(others, level)
                self.assertLessEqual(fraction_of(least), fraction_of(other))

    def test_no_dealing_has_less_at_any_level(self):
        rng = random.Random(61)
        for works, doers, many in some_chores(rng, 150):
            self.assertLeast(rng, works, doers, many, 5)
        self.assertLeast(rng, *wide_chores(rng), 5)

    def test_one_hand_for_each_chore_is_no_better(self):
        rng = random.Random(62)
        for works, doers, many in some_chores(rng, 100):
            loads = loads_by(works, doers, many)
            for place in (0, -1):
                others = [0] * many
                for work, hands in zip(works, doers):
                    others[hands[place]] += work
                for level in loads:
                    least = fraction_of(self.overtime(loads, level))
                    self.assertLessEqual(least, overtime_by_trial([(other, 1) for other in others], level))

    def test_no_loads_but_those_told_have_so_little_at_every_level(self):
        rng = random.Random(63)
        for works, doers, many in some_chores(rng, 100):
            loads = loads_by(works, doers, many)
            others = self.loads(doers, many, random_dealing(rng, works, doers))
            if others != loads:
                self.assertTrue(any(fraction_of(self.overtime(loads, level)) < overtime_by_trial(others, level)
                                    for level in loads + others))


class TestOwn(DealingCase):
    def test_told_lists_are_the_askers_own(self):
        works, doers, many = [6, 1, 2], [[0], [0, 1], [1, 2]], 4
        shares = deal_evenly(works, doers, many)
        kept = deal_evenly(works, doers, many)
        loads = loads_of_shares(doers, many, kept)
        for row in shares:
            row[0] = (99, 1)
            row.append((1, 1))
        shares.pop()
        loads.clear()
        self.assertEqual(deal_evenly(works, doers, many), kept)
        self.assertEqual(loads_of_shares(doers, many, kept), [(6, 1), (3, 2), (3, 2), (0, 1)])
        self.assertDealing(works, doers, many, kept)

    def test_rows_of_chores_that_are_alike_are_lists_of_their_own(self):
        hands = [0, 1]
        shares = deal_evenly([2, 2, 2], [hands, hands, hands], 2)
        shares[0].clear()
        self.assertEqual([len(row) for row in shares], [0, 2, 2])
        self.assertEqual(hands, [0, 1])

    def test_lists_changed_behind_change_no_answer(self):
        works, doers = [6, 1, 2], [[0], [0, 1], [1, 2]]
        shares = deal_evenly(works, doers, 3)
        works.clear()
        doers[1].reverse()
        doers.pop()
        self.assertEqual(shares, [[(6, 1)], [(0, 1), (1, 1)], [(1, 2), (3, 2)]])


if __name__ == "__main__":
    unittest.main()
