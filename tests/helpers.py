import signal
import unittest
from copy import deepcopy
from fractions import Fraction
from itertools import combinations
from math import gcd

# Each test here is answered within a few seconds; what goes on for longer hangs on how great the numbers are,
# or goes through all sets of hands or chores.
SECONDS = 30

SIXTY = int("9" * 60)


class TimedCase(unittest.TestCase):
    """A test that fails, in the place of waiting for ever, where an answer does not come."""

    def setUp(self):
        before = signal.signal(signal.SIGALRM, self.fail_as_late)
        self.addCleanup(signal.signal, signal.SIGALRM, before)
        signal.alarm(SECONDS)
        self.addCleanup(signal.alarm, 0)

    def fail_as_late(self, number, frame):
        self.fail(f"no answer within {SECONDS} seconds")


class ChoresCase(TimedCase):
    def ask(self, question, *handed):
        """The answer, once what was handed in is found to be as it was."""
        before = deepcopy(handed)
        told = question(*handed)
        self.assertEqual(handed, before)
        return told

    def assertWhole(self, number):
        self.assertIs(type(number), int)

    def assertPartFromNought(self, part):
        self.assertIs(type(part), tuple)
        top, bottom = part
        self.assertWhole(top)
        self.assertWhole(bottom)
        self.assertGreaterEqual(top, 0)
        self.assertGreaterEqual(bottom, 1)
        self.assertEqual(gcd(top, bottom), 1)

    def assertRowsFit(self, doers, rows):
        self.assertIs(type(rows), list)
        self.assertEqual(len(rows), len(doers))
        for row, hands in zip(rows, doers):
            self.assertIs(type(row), list)
            self.assertEqual(len(row), len(hands))


def fraction_of(part):
    return Fraction(part[0], part[1])


def fractions_of(parts):
    return [fraction_of(part) for part in parts]


def random_chores(rng, most_chores, most_hands, highest):
    """Works, doers and the number of hands, some of which no chore names perhaps."""
    many = rng.randrange(1, most_hands + 1)
    works, doers = [], []
    for chore in range(rng.randrange(most_chores + 1)):
        works.append(rng.randrange(1, highest + 1))
        doers.append(sorted(rng.sample(range(many), rng.randrange(1, many + 1))))
    return works, doers, many


def some_chores(rng, turns, most_chores=7, most_hands=6):
    for turn in range(turns):
        yield random_chores(rng, most_chores, most_hands, rng.choice([1, 3, 12, 100, SIXTY]))


def wide_chores(rng, many_chores=40, many_hands=40, doers_in_all=300, figures=60):
    """As many doers in all as told, and works from few figures up to the figures told."""
    cells = {(chore, rng.randrange(many_hands)) for chore in range(many_chores)}
    others = [(c, h) for c in range(many_chores) for h in range(many_hands) if (c, h) not in cells]
    cells.update(rng.sample(others, doers_in_all - many_chores))
    doers = [sorted(hand for chore, hand in cells if chore == number) for number in range(many_chores)]
    works = [rng.randrange(1, 10 ** rng.randrange(1, figures + 1)) for chore in range(many_chores)]
    return works, doers, many_hands


def steep_chores():
    """Forty chores of which each has fewer doers and far more work than the one ahead: a layer for each hand."""
    return [10 ** (chore + 20) for chore in range(40)], [list(range(chore, 40)) for chore in range(40)], 40


def all_sets(things):
    for size in range(len(things) + 1):
        yield from combinations(things, size)


def work_held_by(works, doers, hands):
    """The work that only these hands can do."""
    return sum(work for work, row in zip(works, doers) if set(row) <= set(hands))


def loads_by_trial(works, doers, many):
    """The loads by going through all sets of hands: again and again the greatest set with the most work for each."""
    loads = [None] * many
    rest = list(range(many))
    taken = []
    while rest:
        def work_for_each(hands):
            added = work_held_by(works, doers, taken + list(hands)) - work_held_by(works, doers, taken)
            return Fraction(added, len(hands)), len(hands)
        crowd = max([hands for hands in all_sets(rest) if hands], key=work_for_each)
        for hand in crowd:
            loads[hand] = work_for_each(crowd)[0]
        taken += crowd
        rest = [hand for hand in rest if hand not in taken]
    return loads


def loads_by_rows(doers, many, rows):
    """The loads of shares or pieces that are numbers of Python's own."""
    loads = [0] * many
    for hands, row in zip(doers, rows):
        for hand, share in zip(hands, row):
            loads[hand] += share
    return loads
