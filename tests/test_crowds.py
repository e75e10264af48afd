import random
import unittest

from evenyoke.crowds import layers_by, loads_by
from tests.helpers import (SIXTY, ChoresCase, all_sets, fraction_of, fractions_of, loads_by_trial, some_chores,
                           steep_chores, wide_chores, work_held_by)


class CrowdsCase(ChoresCase):
    def loads(self, works, doers, many):
        loads = self.ask(loads_by, works, doers, many)
        self.assertIs(type(loads), list)
        self.assertEqual(len(loads), many)
        for load in loads:
            self.assertPartFromNought(load)
        return loads

    def layers(self, works, doers, many):
        layers = self.ask(layers_by, works, doers, many)
        self.assertLayers(works, doers, many, layers)
        return layers

    def assertLayers(self, works, doers, many, layers):
        """Point 10, all that it says of the layers."""
        self.assertIs(type(layers), list)
        loads = loads_by(works, doers, many)
        for layer in layers:
            self.assertIs(type(layer), tuple)
            load, hands, chores = layer
            self.assertPartFromNought(load)
            self.assertRising(hands)
            self.assertRising(chores)
            self.assertEqual(hands, [hand for hand in range(many) if loads[hand] == load])
            self.assertEqual(sum(works[chore] for chore in chores), fraction_of(load) * len(hands))
        self.assertFalling([fraction_of(layer[0]) for layer in layers])
        self.assertEqual(sorted(hand for layer in layers for hand in layer[1]), list(range(many)))
        self.assertEqual(sorted(chore for layer in layers for chore in layer[2]), list(range(len(works))))
        self.assertChoresStandRight(doers, layers)

    def assertChoresStandRight(self, doers, layers):
        ahead = set()
        for load, hands, chores in layers:
            ahead.update(hands)
            for chore in chores:
                self.assertLessEqual(set(doers[chore]), ahead)
                self.assertTrue(set(doers[chore]) & set(hands))

    def assertRising(self, numbers):
        self.assertIs(type(numbers), list)
        for number in numbers:
            self.assertWhole(number)
        self.assertEqual(numbers, sorted(set(numbers)))

    def assertFalling(self, fractions):
        self.assertEqual(fractions, sorted(set(fractions), reverse=True))


class TestFew(CrowdsCase):
    def test_no_chores_and_no_hands(self):
        self.assertEqual(self.loads([], [], 0), [])
        self.assertEqual(self.layers([], [], 0), [])

    def test_no_chores_but_hands(self):
        for many in (1, 2, 5, 40):
            self.assertEqual(self.loads([], [], many), [(0, 1)] * many)
            self.assertEqual(self.layers([], [], many), [((0, 1), list(range(many)), [])])

    def test_one_chore_with_one_doer(self):
        for work in (1, 7, SIXTY):
            self.assertEqual(self.loads([work], [[0]], 1), [(work, 1)])
            self.assertEqual(self.layers([work], [[0]], 1), [((work, 1), [0], [0])])
            self.assertEqual(self.loads([work], [[1]], 3), [(0, 1), (work, 1), (0, 1)])
            self.assertEqual(self.layers([work], [[1]], 3), [((work, 1), [1], [0]), ((0, 1), [0, 2], [])])

    def test_one_chore_with_several_doers(self):
        self.assertEqual(self.loads([3], [[0, 2]], 4), [(3, 2), (0, 1), (3, 2), (0, 1)])
        self.assertEqual(self.layers([3], [[0, 2]], 4), [((3, 2), [0, 2], [0]), ((0, 1), [1, 3], [])])
        self.assertEqual(self.loads([4], [[1, 2]], 3), [(0, 1), (2, 1), (2, 1)])

    def test_one_chore_with_all_hands(self):
        self.assertEqual(self.loads([10], [[0, 1, 2, 3]], 4), [(5, 2)] * 4)
        self.assertEqual(self.layers([10], [[0, 1, 2, 3]], 4), [((5, 2), [0, 1, 2, 3], [0])])
        self.assertEqual(self.loads([SIXTY], [[0, 1]], 2), [(SIXTY, 2)] * 2)

    def test_hands_that_no_chore_names(self):
        self.assertEqual(self.layers([2, 2], [[1, 3], [3]], 5),
                         [((2, 1), [1, 3], [0, 1]), ((0, 1), [0, 2, 4], [])])


class TestPlain(CrowdsCase):
    def test_two_layers(self):
        works, doers = [6, 1, 2], [[0], [0, 1], [1, 2]]
        self.assertEqual(self.loads(works, doers, 3), [(6, 1), (3, 2), (3, 2)])
        self.assertEqual(self.layers(works, doers, 3), [((6, 1), [0], [0]), ((3, 2), [1, 2], [1, 2])])

    def test_a_layer_of_hands_that_share_no_chore(self):
        works, doers = [2, 5, 4], [[2], [1], [0, 3]]
        self.assertEqual(self.layers(works, doers, 4), [((5, 1), [1], [1]), ((2, 1), [0, 2, 3], [0, 2])])

    def test_a_chore_stands_in_the_layer_of_its_least_burdened_doer(self):
        works, doers = [9, 4, 1, 1], [[0], [1], [0, 1, 2], [0, 1]]
        self.assertEqual(self.layers(works, doers, 3),
                         [((9, 1), [0], [0]), ((5, 1), [1], [1, 3]), ((1, 1), [2], [2])])

    def test_a_chain_in_which_work_is_passed_on(self):
        works, doers = [8, 1, 1], [[0, 1], [1, 2], [2, 3]]
        self.assertEqual(self.loads(works, doers, 4), [(4, 1), (4, 1), (1, 1), (1, 1)])
        self.assertEqual(self.loads([3, 3, 1], doers, 4), [(2, 1), (2, 1), (2, 1), (1, 1)])
        self.assertEqual(self.loads([3, 1, 3], doers, 4), [(7, 4)] * 4)

    def test_works_of_sixty_figures_that_are_almost_alike(self):
        works, doers = [SIXTY, SIXTY - 1, 1], [[0], [1], [0, 1]]
        self.assertEqual(self.layers(works, doers, 2), [((SIXTY, 1), [0, 1], [0, 1, 2])])
        works = [SIXTY, SIXTY - 2, 1]
        self.assertEqual(self.layers(works, doers, 2), [((SIXTY, 1), [0], [0]), ((SIXTY - 1, 1), [1], [1, 2])])
        works = [SIXTY, SIXTY, 1]
        self.assertEqual(self.layers(works, doers, 2), [((2 * SIXTY + 1, 2), [0, 1], [0, 1, 2])])


class TestMany(CrowdsCase):
    def test_against_all_sets_of_hands(self):
        for works, doers, many in some_chores(random.Random(41), 150):
            self.assertEqual(fractions_of(self.loads(works, doers, many)), loads_by_trial(works, doers, many))
            self.layers(works, doers, many)

    def test_no_set_of_hands_bears_less_than_it_alone_can_do(self):
        for works, doers, many in some_chores(random.Random(42), 100):
            loads = fractions_of(self.loads(works, doers, many))
            for hands in all_sets(range(many)):
                self.assertLessEqual(work_held_by(works, doers, hands), sum(loads[hand] for hand in hands))
            self.assertEqual(sum(works), sum(loads))

    def test_chores_in_another_order(self):
        rng = random.Random(43)
        for works, doers, many in some_chores(rng, 100):
            order = rng.sample(range(len(works)), len(works))
            shuffled = [works[chore] for chore in order], [doers[chore] for chore in order], many
            self.assertEqual(self.loads(*shuffled), self.loads(works, doers, many))
            renamed = [(load, hands, sorted(order.index(chore) for chore in chores))
                       for load, hands, chores in self.layers(works, doers, many)]
            self.assertEqual(self.layers(*shuffled), renamed)

    def test_hands_in_another_order(self):
        rng = random.Random(44)
        for works, doers, many in some_chores(rng, 100):
            number = rng.sample(range(many), many)
            renamed = [sorted(number[hand] for hand in hands) for hands in doers]
            loads = self.loads(works, renamed, many)
            self.assertEqual([loads[number[hand]] for hand in range(many)], self.loads(works, doers, many))


class TestOwn(CrowdsCase):
    def test_told_lists_are_the_askers_own(self):
        works, doers, many = [6, 1, 2], [[0], [0, 1], [1, 2]], 4
        loads = loads_by(works, doers, many)
        layers = layers_by(works, doers, many)
        kept = loads_by(works, doers, many), layers_by(works, doers, many)
        loads[0] = (99, 1)
        loads.clear()
        for layer in layers:
            layer[1].append(77)
            layer[2].insert(0, 77)
        layers.pop()
        self.assertEqual((loads_by(works, doers, many), layers_by(works, doers, many)), kept)
        self.assertLayers(works, doers, many, kept[1])

    def test_no_list_is_told_twice_in_one_answer(self):
        for works, doers, many in [([], [], 3), ([2, 2], [[0], [1]], 2), ([6, 1, 2], [[0], [0, 1], [1, 2]], 3)]:
            lists = [part for layer in layers_by(works, doers, many) for part in layer[1:]]
            lists += doers
            self.assertEqual(len({id(one) for one in lists}), len(lists))

    def test_lists_changed_behind_change_no_answer(self):
        works, doers = [6, 1, 2], [[0], [0, 1], [1, 2]]
        loads, layers = loads_by(works, doers, 3), layers_by(works, doers, 3)
        works[0] = 50
        doers[1].clear()
        doers.reverse()
        self.assertEqual(loads, [(6, 1), (3, 2), (3, 2)])
        self.assertEqual(layers, [((6, 1), [0], [0]), ((3, 2), [1, 2], [1, 2])])


class TestWithoutDelay(CrowdsCase):
    def test_forty_chores_and_forty_hands(self):
        rng = random.Random(45)
        for turn in range(10):
            chores = wide_chores(rng)
            self.assertEqual((len(chores[0]), chores[2], sum(map(len, chores[1]))), (40, 40, 300))
            self.loads(*chores)
            self.layers(*chores)

    def test_works_of_one_length(self):
        rng = random.Random(46)
        for turn in range(10):
            works, doers, many = wide_chores(rng, doers_in_all=rng.choice([60, 100, 300]))
            works = [rng.randrange(10 ** 59, 10 ** 60) for work in works]
            self.loads(works, doers, many)
            self.layers(works, doers, many)

    def test_forty_layers(self):
        layers = self.layers(*steep_chores())
        self.assertEqual(layers, [((10 ** (k + 20), 1), [k], [k]) for k in reversed(range(40))])

    def test_all_hands_can_do_all_chores(self):
        works = [SIXTY - chore for chore in range(40)]
        load = (sum(works) // 20, 2)
        self.assertEqual(sum(works) // 20 % 2, 1)
        self.assertEqual(self.layers(works, [list(range(40)) for chore in works], 40),
                         [(load, list(range(40)), list(range(40)))])

    def test_somewhat_beyond_the_bounds(self):
        rng = random.Random(47)
        chores = wide_chores(rng, many_chores=50, many_hands=45, doers_in_all=700, figures=90)
        self.loads(*chores)
        self.layers(*chores)


if __name__ == "__main__":
    unittest.main()
