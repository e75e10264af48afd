import random
import unittest
from itertools import product

from evenyoke.pours import pour_all, pour_more
from tests.helpers import TimedCase

HUGE = 10 ** 300 - 1


def given_by(many, ties, sent):
    return [sum(sent[k] for k, tie in enumerate(ties) if tie[0] == give) for give in range(many)]


def got_by(many, ties, sent):
    return [sum(sent[k] for k, tie in enumerate(ties) if tie[1] == take) for take in range(many)]


def near_by_rules(gives, takes, ties, sent):
    """Point 6 word by word, over and over until nothing more is near."""
    given = given_by(len(gives), ties, sent)
    near_gives = [given[give] < gives[give] for give in range(len(gives))]
    near_takes = [False] * len(takes)
    changed = True
    while changed:
        before = (list(near_gives), list(near_takes))
        for k, (give, take) in enumerate(ties):
            if near_gives[give]:
                near_takes[take] = True
            if near_takes[take] and sent[k] > 0:
                near_gives[give] = True
        changed = before != (near_gives, near_takes)
    return (near_gives, near_takes)


def greatest_by_trial(gives, takes, ties):
    """What can be sent in all by the least over all sets of gives of those outside and the takes tied to it."""
    sums = []
    for inside in product([False, True], repeat=len(gives)):
        tied = {take for give, take in ties if inside[give]}
        sums.append(sum(g for g, chosen in zip(gives, inside) if not chosen) + sum(takes[t] for t in tied))
    return min(sums)


def random_pour(rng, most_gives, most_takes, highest):
    gives = [rng.randrange(highest + 1) for k in range(rng.randrange(most_gives + 1))]
    takes = [rng.randrange(highest + 1) for k in range(rng.randrange(most_takes + 1))]
    ties = [(give, take) for give in range(len(gives)) for take in range(len(takes)) if rng.random() < 0.5]
    rng.shuffle(ties)
    return gives, takes, ties


def random_sent(rng, gives, takes, ties):
    """A list sent that fits, but that is no greatest one perhaps."""
    left, room, sent = list(gives), list(takes), [0] * len(ties)
    for k in rng.sample(range(len(ties)), len(ties)):
        give, take = ties[k]
        sent[k] = rng.randrange(min(left[give], room[take]) + 1)
        left[give] -= sent[k]
        room[take] -= sent[k]
    return sent


class PoursCase(TimedCase):
    def assertFits(self, gives, takes, ties, sent):
        self.assertIs(type(sent), list)
        self.assertEqual(len(sent), len(ties))
        for amount in sent:
            self.assertIs(type(amount), int)
            self.assertGreaterEqual(amount, 0)
        for given, most in zip(given_by(len(gives), ties, sent), gives):
            self.assertLessEqual(given, most)
        for got, most in zip(got_by(len(takes), ties, sent), takes):
            self.assertLessEqual(got, most)

    def assertTold(self, gives, takes, ties, told):
        """Points 5 and 6. That the sum is the one of a cut shows, too, that no sending is greater."""
        self.assertIs(type(told), tuple)
        sent, near = told
        self.assertFits(gives, takes, ties, sent)
        self.assertIs(type(near), tuple)
        self.assertEqual(near, near_by_rules(gives, takes, ties, sent))
        for truths in near:
            self.assertIs(type(truths), list)
            for truth in truths:
                self.assertIs(type(truth), bool)
        far_gives = sum(give for give, is_near in zip(gives, near[0]) if not is_near)
        near_takes = sum(take for take, is_near in zip(takes, near[1]) if is_near)
        self.assertEqual(sum(sent), far_gives + near_takes)

    def pour(self, gives, takes, ties):
        handed = (list(gives), list(takes), list(ties))
        told = pour_all(gives, takes, ties)
        self.assertEqual((gives, takes, ties), handed)
        self.assertTold(gives, takes, ties, told)
        return told

    def pour_on(self, gives, takes, ties, sent):
        handed = (list(gives), list(takes), list(ties), list(sent))
        told = pour_more(gives, takes, ties, sent)
        self.assertEqual((gives, takes, ties, sent), handed)
        self.assertTold(gives, takes, ties, told)
        before = got_by(len(takes), ties, sent)
        for got, least in zip(got_by(len(takes), ties, told[0]), before):
            self.assertGreaterEqual(got, least)
        return told


class TestPourAll(PoursCase):
    def test_nothing_at_all(self):
        self.assertEqual(self.pour([], [], []), ([], ([], [])))

    def test_no_gives(self):
        self.assertEqual(self.pour([], [3, 0], []), ([], ([], [False, False])))

    def test_no_takes(self):
        self.assertEqual(self.pour([3, 0], [], []), ([], ([True, False], [])))

    def test_no_ties(self):
        self.assertEqual(self.pour([3, 0], [2], []), ([], ([True, False], [False])))

    def test_gives_and_takes_of_nought(self):
        self.assertEqual(self.pour([0], [5], [(0, 0)]), ([0], ([False], [False])))
        self.assertEqual(self.pour([5], [0], [(0, 0)]), ([0], ([True], [True])))
        self.assertEqual(self.pour([0], [0], [(0, 0)]), ([0], ([False], [False])))
        self.assertEqual(self.pour([4, 0], [0, 3], [(0, 0), (1, 0), (0, 1), (1, 1)]),
                         ([0, 0, 3, 0], ([True, False], [True, True])))

    def test_one_tie(self):
        self.assertEqual(self.pour([3], [5], [(0, 0)]), ([3], ([False], [False])))
        self.assertEqual(self.pour([5], [3], [(0, 0)]), ([3], ([True], [True])))
        self.assertEqual(self.pour([4], [4], [(0, 0)]), ([4], ([False], [False])))

    def test_a_first_way_is_turned_back(self):
        for ties in ([(0, 0), (0, 1), (1, 0)], [(0, 1), (0, 0), (1, 0)], [(1, 0), (0, 0), (0, 1)]):
            sent, near = self.pour([1, 1], [1, 1], ties)
            self.assertEqual(dict(zip(ties, sent)), {(0, 0): 0, (0, 1): 1, (1, 0): 1})
            self.assertEqual(near, ([False, False], [False, False]))

    def test_a_long_row_of_ways_is_turned_back(self):
        many = 40
        for size in (1, HUGE):
            ties = [(k, k) for k in range(many - 1)] + [(k, k + 1) for k in range(many - 1)] + [(many - 1, 0)]
            sent, near = self.pour([size] * many, [size] * many, ties)
            self.assertEqual(sent, [0] * (many - 1) + [size] * many)
            self.assertEqual(near, ([False] * many, [False] * many))

    def test_near_goes_back_through_what_is_sent_alone(self):
        sent, near = self.pour([5, 2, 2], [4, 9], [(0, 0), (1, 0), (1, 1), (2, 1)])
        self.assertEqual(sent, [4, 0, 2, 2])
        self.assertEqual(near, ([True, False, False], [True, False]))
        sent, near = self.pour([5, 2, 2], [4, 3], [(0, 0), (1, 0), (1, 1), (2, 1)])
        self.assertEqual(sum(sent), 7)
        self.assertEqual(near, ([True, True, True], [True, True]))

    def test_three_hundred_figures(self):
        third = int("3" * 300)
        ties = [(0, 0), (0, 1), (1, 0), (1, 1)]
        self.assertEqual(sum(self.pour([HUGE, third], [third, HUGE], ties)[0]), HUGE + third)
        self.assertEqual(sum(self.pour([HUGE, 1], [third, third], ties)[0]), 2 * third)
        self.assertEqual(sum(self.pour([HUGE, HUGE], [1, HUGE], [(0, 0), (1, 0), (1, 1)])[0]), HUGE + 1)

    def test_ties_in_another_order(self):
        rng = random.Random(11)
        for turn in range(150):
            gives, takes, ties = random_pour(rng, 6, 6, 9)
            sent, near = self.pour(gives, takes, ties)
            shuffled = rng.sample(ties, len(ties))
            other_sent, other_near = self.pour(gives, takes, shuffled)
            self.assertEqual(sum(other_sent), sum(sent))
            self.assertEqual(other_near, near)

    def test_every_small_pour(self):
        all_ties = [(0, 0), (0, 1), (1, 0), (1, 1)]
        for sizes in product(range(3), repeat=4):
            for chosen in product([False, True], repeat=4):
                ties = [tie for tie, is_in in zip(all_ties, chosen) if is_in]
                gives, takes = list(sizes[:2]), list(sizes[2:])
                sent = self.pour(gives, takes, ties)[0]
                self.assertEqual(sum(sent), greatest_by_trial(gives, takes, ties))

    def test_many_pours_against_all_cuts(self):
        rng = random.Random(5)
        for turn in range(300):
            gives, takes, ties = random_pour(rng, 7, 7, rng.choice([1, 4, 50, HUGE]))
            sent = self.pour(gives, takes, ties)[0]
            self.assertEqual(sum(sent), greatest_by_trial(gives, takes, ties))


class TestPourMore(PoursCase):
    def test_from_nothing(self):
        rng = random.Random(21)
        self.assertEqual(self.pour_on([], [], [], []), ([], ([], [])))
        for turn in range(150):
            gives, takes, ties = random_pour(rng, 6, 6, 9)
            sent, near = self.pour_on(gives, takes, ties, [0] * len(ties))
            told = self.pour(gives, takes, ties)
            self.assertEqual((sum(sent), near), (sum(told[0]), told[1]))

    def test_from_one_that_is_not_the_greatest(self):
        self.assertEqual(self.pour_on([1, 1], [1, 1], [(0, 0), (0, 1), (1, 0)], [1, 0, 0]),
                         ([0, 1, 1], ([False, False], [False, False])))
        self.assertEqual(self.pour_on([5], [3], [(0, 0)], [1]), ([3], ([True], [True])))

    def test_from_any_that_fits(self):
        rng = random.Random(22)
        for turn in range(300):
            gives, takes, ties = random_pour(rng, 7, 7, rng.choice([1, 4, 50, HUGE]))
            sent, near = self.pour_on(gives, takes, ties, random_sent(rng, gives, takes, ties))
            told = self.pour(gives, takes, ties)
            self.assertEqual((sum(sent), near), (sum(told[0]), told[1]))

    def test_from_the_greatest(self):
        rng = random.Random(23)
        for turn in range(150):
            gives, takes, ties = random_pour(rng, 7, 7, rng.choice([1, 4, HUGE]))
            sent, near = self.pour(gives, takes, ties)
            again, near_again = self.pour_on(gives, takes, ties, sent)
            self.assertEqual(got_by(len(takes), ties, again), got_by(len(takes), ties, sent))
            self.assertEqual(near_again, near)

    def test_a_take_keeps_what_it_got_where_another_could_have_it(self):
        sent, near = self.pour_on([3], [3, 3, 3], [(0, 0), (0, 1), (0, 2)], [0, 1, 1])
        self.assertEqual(sum(sent), 3)
        self.assertEqual(near, ([False], [False, False, False]))
        self.assertEqual(self.pour_on([3], [3, 3], [(0, 0), (0, 1)], [0, 3])[0], [0, 3])


class TestOwn(PoursCase):
    def test_told_lists_are_the_askers_own(self):
        gives, takes, ties = [4, 3], [2, 6], [(0, 0), (0, 1), (1, 1)]
        first = pour_all(gives, takes, ties)
        second = pour_all(gives, takes, ties)
        third = pour_more(gives, takes, ties, second[0])
        for told in (first, third):
            told[0][0] = 99
            told[0].append(7)
            told[1][0].clear()
            told[1][1][0] = None
        self.assertTold(gives, takes, ties, second)
        self.assertEqual(pour_all(gives, takes, ties), second)
        self.assertTold(gives, takes, ties, pour_more(gives, takes, ties, second[0]))

    def test_a_greatest_list_handed_in_is_told_as_a_list_of_its_own(self):
        sent = [3]
        told = pour_more([3], [3], [(0, 0)], sent)[0]
        self.assertIsNot(told, sent)
        sent[0] = 0
        self.assertEqual(told, [3])

    def test_lists_changed_behind_change_no_answer(self):
        gives, takes, ties = [4, 3], [2, 6], [(0, 0), (0, 1), (1, 1)]
        told = pour_all(gives, takes, ties)
        gives.clear()
        takes[0] = 50
        ties.reverse()
        self.assertTold([4, 3], [2, 6], [(0, 0), (0, 1), (1, 1)], told)
        self.assertEqual(pour_all([4, 3], [2, 6], [(0, 0), (0, 1), (1, 1)]), told)


class TestWithoutDelay(PoursCase):
    def great_pour(self, rng):
        cells = [(give, take) for give in range(40) for take in range(40)]
        gives = [rng.randrange(10 ** rng.randrange(1, 301)) for k in range(40)]
        takes = [rng.randrange(10 ** rng.randrange(1, 301)) for k in range(40)]
        return gives, takes, rng.sample(cells, 300)

    def test_forty_and_forty_with_three_hundred_ties(self):
        rng = random.Random(31)
        for turn in range(10):
            gives, takes, ties = self.great_pour(rng)
            self.pour(gives, takes, ties)
            sent = random_sent(rng, gives, takes, ties)
            self.pour_on(gives, takes, ties, sent)

    def test_numbers_of_one_length(self):
        rng = random.Random(32)
        for turn in range(10):
            ties = self.great_pour(rng)[2]
            gives = [rng.randrange(10 ** 299, 10 ** 300) for k in range(40)]
            takes = [rng.randrange(10 ** 299, 10 ** 300) for k in range(40)]
            self.pour(gives, takes, ties)

    def test_a_narrow_tie_between_wide_ways(self):
        ties = [(0, 0), (0, 1), (1, 0), (1, 1), (2, 1), (2, 2)]
        sent = self.pour_on([HUGE, HUGE, 1], [HUGE, HUGE, 1], ties, [0, 1, 1, 0, 0, 0])[0]
        self.assertEqual(sum(sent), 2 * HUGE + 1)

    def test_steps_do_not_grow_with_the_numbers(self):
        rng = random.Random(33)
        gives, takes, ties = self.great_pour(rng)
        many_more = 10 ** 2000
        self.pour([give * many_more for give in gives], [take * many_more for take in takes], ties)

    def test_somewhat_beyond_the_bounds(self):
        rng = random.Random(34)
        cells = [(give, take) for give in range(60) for take in range(60)]
        gives = [rng.randrange(HUGE) for k in range(60)]
        takes = [rng.randrange(HUGE) for k in range(60)]
        self.pour(gives, takes, rng.sample(cells, 2000))


if __name__ == "__main__":
    unittest.main()
