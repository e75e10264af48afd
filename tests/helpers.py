import signal
import unittest
from copy import deepcopy
from fractions import Fraction
from itertools import combinations
from math import gcd

from evenyoke.crowds import loads_by
from evenyoke.errors import NoChore, NoHand, NoName, NotSo, NoWork, TooMany, Twice, YokeError
from evenyoke.house import House

# Each test here is answered within a few seconds; what goes on for longer hangs on how great the numbers are,
# or goes through all sets of hands or chores.
SECONDS = 30

SIXTY = int("9" * 60)

LETTERS = "abcdefghijklmnopqrstuvwxyz"
DEED_WORDS = ["hire", "put", "drop", "more", "fewer", "away", "back"]
NO_NAMES = ["", "a" * 13, "Ann", "ann1", "an n", " ann", "ann ", "ann\n", "an-n", "\u00e4nn", "\u03b1", "7", "-", "ANN"]


class TimedCase(unittest.TestCase):
    """A test that fails, in the place of waiting for ever, where an answer does not come."""

    def setUp(self):
        before = signal.signal(signal.SIGALRM, self.fail_as_late)
        self.addCleanup(signal.signal, signal.SIGALRM, before)
        signal.alarm(SECONDS)
        self.addCleanup(signal.alarm, 0)

    def fail_as_late(self, number, frame):
        self.fail(f"no answer within {SECONDS} seconds")


class ChoresCase(TimedCase):
    def ask(self, question, *handed):
        """The answer, once what was handed in is found to be as it was."""
        before = deepcopy(handed)
        told = question(*handed)
        self.assertEqual(handed, before)
        return told

    def assertWhole(self, number):
        self.assertIs(type(number), int)

    def assertPartFromNought(self, part):
        self.assertIs(type(part), tuple)
        top, bottom = part
        self.assertWhole(top)
        self.assertWhole(bottom)
        self.assertGreaterEqual(top, 0)
        self.assertGreaterEqual(bottom, 1)
        self.assertEqual(gcd(top, bottom), 1)

    def assertRowsFit(self, doers, rows):
        self.assertIs(type(rows), list)
        self.assertEqual(len(rows), len(doers))
        for row, hands in zip(rows, doers):
            self.assertIs(type(row), list)
            self.assertEqual(len(row), len(hands))

    def assertDealing(self, works, doers, many, shares):
        """Point 11: shares that come to the works, the loads told ahead, and no unrest."""
        self.assertRowsFit(doers, shares)
        for row, work in zip(shares, works):
            for share in row:
                self.assertPartFromNought(share)
            self.assertEqual(sum(fractions_of(row)), work)
        loads = loads_by_rows(doers, many, [fractions_of(row) for row in shares])
        self.assertEqual(loads, fractions_of(loads_by(works, doers, many)))
        for hands, row in zip(doers, shares):
            for hand, share in zip(hands, row):
                if share[0] > 0:
                    self.assertEqual(loads[hand], min(loads[other] for other in hands))

    def assertPieces(self, works, doers, many, pieces):
        """Point 13, all that it says."""
        self.assertRowsFit(doers, pieces)
        for row, work in zip(pieces, works):
            for number in row:
                self.assertWhole(number)
                self.assertGreaterEqual(number, 0)
            self.assertEqual(sum(row), work)
        for got, load in zip(loads_by_rows(doers, many, pieces), loads_by(works, doers, many)):
            down = load[0] // load[1]
            self.assertIn(got, (down, down if load[1] == 1 else down + 1))


def fraction_of(part):
    return Fraction(part[0], part[1])


def fractions_of(parts):
    return [fraction_of(part) for part in parts]


def random_chores(rng, most_chores, most_hands, highest):
    """Works, doers and the number of hands, some of which no chore names perhaps."""
    many = rng.randrange(1, most_hands + 1)
    works, doers = [], []
    for chore in range(rng.randrange(most_chores + 1)):
        works.append(rng.randrange(1, highest + 1))
        doers.append(sorted(rng.sample(range(many), rng.randrange(1, many + 1))))
    return works, doers, many


def some_chores(rng, turns, most_chores=7, most_hands=6):
    for turn in range(turns):
        yield random_chores(rng, most_chores, most_hands, rng.choice([1, 3, 12, 100, SIXTY]))


def wide_chores(rng, many_chores=40, many_hands=40, doers_in_all=300, figures=60):
    """As many doers in all as told, and works from few figures up to the figures told."""
    cells = {(chore, rng.randrange(many_hands)) for chore in range(many_chores)}
    others = [(c, h) for c in range(many_chores) for h in range(many_hands) if (c, h) not in cells]
    cells.update(rng.sample(others, doers_in_all - many_chores))
    doers = [sorted(hand for chore, hand in cells if chore == number) for number in range(many_chores)]
    works = [rng.randrange(1, 10 ** rng.randrange(1, figures + 1)) for chore in range(many_chores)]
    return works, doers, many_hands


def steep_chores():
    """Forty chores of which each has fewer doers and far more work than the one ahead: a layer for each hand."""
    return [10 ** (chore + 20) for chore in range(40)], [list(range(chore, 40)) for chore in range(40)], 40


def all_sets(things):
    for size in range(len(things) + 1):
        yield from combinations(things, size)


def work_held_by(works, doers, hands):
    """The work that only these hands can do."""
    return sum(work for work, row in zip(works, doers) if set(row) <= set(hands))


def loads_by_trial(works, doers, many):
    """The loads by going through all sets of hands: again and again the greatest set with the most work for each."""
    loads = [None] * many
    rest = list(range(many))
    taken = []
    while rest:
        def work_for_each(hands):
            added = work_held_by(works, doers, taken + list(hands)) - work_held_by(works, doers, taken)
            return Fraction(added, len(hands)), len(hands)
        crowd = max([hands for hands in all_sets(rest) if hands], key=work_for_each)
        for hand in crowd:
            loads[hand] = work_for_each(crowd)[0]
        taken += crowd
        rest = [hand for hand in rest if hand not in taken]
    return loads


def loads_by_rows(doers, many, rows):
    """The loads of shares or pieces that are numbers of Python's own."""
    loads = [0] * many
    for hands, row in zip(doers, rows):
        for hand, share in zip(hands, row):
            loads[hand] += share
    return loads


def named_hands(many):
    """Names by which the order of hiring is not the order of letters."""
    return ["h" + LETTERS[25 - number % 26] + LETTERS[number // 26] for number in range(many)]


def named_chores(many):
    return ["c" + LETTERS[25 - number % 26] + LETTERS[number // 26] for number in range(many)]


def do(house, deed):
    return getattr(house, deed[0])(*deed[1:])


def house_after(*deeds):
    house = House()
    for deed in deeds:
        do(house, deed)
    return house


def house_of(works, doers, many):
    """A house of these chores, and the names of its hands and chores."""
    hands, chores = named_hands(many), named_chores(len(works))
    house = house_after(*[("hire", hand) for hand in hands])
    for chore, work, row in zip(chores, works, doers):
        house.put(chore, work, [hands[number] for number in row])
    return house, hands, chores


def loads_in(house):
    return {name: house.load(name) for name in house.hands()}


def shares_in(house):
    return {chore: house.shares(chore) for chore in house.chores()}


def picture_of(house):
    """All that a house tells."""
    return {
        "hands": house.hands(),
        "chores": house.chores(),
        "waiting": house.waiting(),
        "layers": house.layers(),
        "loads": loads_in(house),
        "there": [house.is_there(name) for name in house.hands()],
        "works": [house.work(chore) for chore in house.chores()],
        "shares": shares_in(house),
        "pieces": {chore: house.pieces(chore) for chore in house.chores()},
    }


def is_a_name(text):
    return 1 <= len(text) <= 12 and all(sign in LETTERS for sign in text)


class Book:
    """What a house is told, written down beside it: which hands are there, and each chore's work and hands."""

    def __init__(self):
        self.crew = {}
        self.tasks = {}

    def wrongs_of(self, deed):
        """What is refused of a deed, in the order told, each wrong with its error."""
        word, name = deed[:2]
        if word == "hire":
            yield not is_a_name(name), NoName
            yield name in self.crew, Twice
            yield len(self.crew) >= 40, TooMany
        elif word == "put":
            work, names = deed[2:]
            yield not is_a_name(name), NoName
            yield name in self.tasks, Twice
            yield work < 1, NoWork
            yield not names or any(hand not in self.crew for hand in names), NoHand
            yield any(names.count(hand) > 1 for hand in names), Twice
            yield len(self.tasks) >= 40, TooMany
        elif word in ("away", "back"):
            yield name not in self.crew, NoHand
            yield self.crew[name] == (word == "back"), NotSo
        else:
            yield name not in self.tasks, NoChore
            if word != "drop":
                yield deed[2] < 1, NoWork
                yield word == "fewer" and self.tasks[name][0] - deed[2] < 1, NoWork

    def refusal_of(self, deed):
        return next((error for wrong, error in self.wrongs_of(deed) if wrong), None)

    def note(self, deed):
        word, name = deed[:2]
        if word in ("hire", "away", "back"):
            self.crew[name] = word != "away"
        elif word == "put":
            self.tasks[name] = (deed[2], list(deed[3]))
        elif word == "drop":
            del self.tasks[name]
        else:
            work, names = self.tasks[name]
            self.tasks[name] = (work + deed[2] if word == "more" else work - deed[2], names)

    def doers_of(self, chore):
        return [hand for hand in self.crew if self.crew[hand] and hand in self.tasks[chore][1]]

    def dealt(self):
        return [chore for chore in self.tasks if self.doers_of(chore)]

    def numbers(self):
        """Works, doers and the number of hands, as the modules below the house are handed them."""
        place = {hand: number for number, hand in enumerate(self.crew)}
        dealt = self.dealt()
        doers = [[place[hand] for hand in self.doers_of(chore)] for chore in dealt]
        return [self.tasks[chore][0] for chore in dealt], doers, len(self.crew)

    def layers_by(self, loads):
        """Point 10, read off the loads."""
        there = [hand for hand in self.crew if self.crew[hand]]
        least = {chore: min([loads[hand] for hand in self.doers_of(chore)], key=fraction_of) for chore in self.dealt()}
        return [(load, [hand for hand in there if loads[hand] == load],
                 [chore for chore in least if least[chore] == load])
                for load in sorted({loads[hand] for hand in there}, key=fraction_of, reverse=True)]


def book_of(works, doers, many, away=()):
    """The book of such a house, with the hands of the numbers in away being away."""
    book = Book()
    hands = named_hands(many)
    for number, hand in enumerate(hands):
        book.note(("hire", hand))
        if number in away:
            book.note(("away", hand))
    for chore, work, row in zip(named_chores(len(works)), works, doers):
        book.note(("put", chore, work, [hands[number] for number in row]))
    return book


def draw_deed(rng, book, hands, chores, highest):
    """A deed of some kind, refused perhaps; hands and chores are names to draw from."""
    word = rng.choice(DEED_WORDS + ["put", "put", "put", "more", "fewer", "back"])
    work = rng.randrange(rng.choice([0, 1, 1, 1]), highest + 1)
    if word == "hire":
        return ("hire", rng.choice(hands))
    if word == "put":
        names = rng.sample(list(book.crew), min(rng.randrange(rng.choice([0, 1, 1]), 6), len(book.crew)))
        return ("put", rng.choice(chores), work, names + rng.choice([[]] * 8 + [names[:1], ["nobody"]]))
    if word in ("away", "back"):
        return (word, rng.choice(list(book.crew) + ["nobody"]))
    chore = rng.choice(list(book.tasks) + ["nothing"])
    if word == "drop":
        return ("drop", chore)
    if word == "fewer" and chore in book.tasks:
        work = rng.randrange(1, min(book.tasks[chore][0], highest) + 1)
    return (word, chore, work)


class HouseCase(ChoresCase):
    def assertRefused(self, error, question, *handed):
        with self.assertRaises(YokeError) as caught:
            question(*handed)
        self.assertIs(type(caught.exception), error)
        self.assertEqual(error.__bases__, (YokeError,))

    def assertPairs(self, house, pairs):
        """Tuples of a name and something above 0, in the order of hiring."""
        self.assertIs(type(pairs), list)
        order = house.hands()
        for pair in pairs:
            self.assertIs(type(pair), tuple)
            self.assertEqual(len(pair), 2)
        places = [order.index(name) for name, amount in pairs]
        self.assertEqual(places, sorted(set(places)))

    def assertHouse(self, house, book):
        """Points 3, 14 and 18: all that is promised of what a house tells between two deeds."""
        self.assertEqual(house.hands(), list(book.crew))
        self.assertEqual(house.chores(), list(book.tasks))
        self.assertEqual([house.work(chore) for chore in book.tasks], [task[0] for task in book.tasks.values()])
        for hand, there in book.crew.items():
            self.assertIs(house.is_there(hand), there)
            if not there:
                self.assertEqual(house.load(hand), (0, 1))
        dealt = book.dealt()
        self.assertEqual(house.waiting(), [chore for chore in book.tasks if chore not in dealt])
        for chore in house.waiting():
            self.assertEqual(house.shares(chore), [])
            self.assertEqual(house.pieces(chore), [])
        works, doers, many = book.numbers()
        self.assertDealing(works, doers, many, self.rows_of(house, book, house.shares, (0, 1)))
        self.assertPieces(works, doers, many, self.rows_of(house, book, house.pieces, 0))
        loads = loads_in(house)
        self.assertEqual(list(loads.values()), loads_by(works, doers, many))
        self.assertEqual(house.layers(), book.layers_by(loads))

    def rows_of(self, house, book, question, nothing):
        rows = []
        for chore in book.dealt():
            pairs = question(chore)
            self.assertPairs(house, pairs)
            self.assertNotIn(nothing, [amount for name, amount in pairs])
            self.assertLessEqual({name for name, amount in pairs}, set(book.doers_of(chore)))
            rows.append([dict(pairs).get(name, nothing) for name in book.doers_of(chore)])
        return rows

    def assertDeed(self, house, book, deed):
        """Points 16 and 17, of a deed that is done and written into the book."""
        loads, shares = loads_in(house), shares_in(house)
        handed = deepcopy(deed)
        told = do(house, deed)
        self.assertEqual(deed, handed)
        book.note(deed)
        after = loads_in(house)
        self.assertIs(type(told), list)
        changes = [(name, loads.get(name, (0, 1)), after[name]) for name in after]
        self.assertEqual(told, [change for change in changes if change[1] != change[2]])
        self.assertOneWay(deed, told)
        changed = [change[0] for change in told]
        behind = shares_in(house)
        for chore in set(shares) | set(behind):
            ahead_row, row = shares.get(chore, []), behind.get(chore, [])
            if any(name not in changed for name, share in ahead_row + row):
                self.assertEqual(row, ahead_row)

    def assertOneWay(self, deed, changes):
        for name, before, after in changes:
            rises = fraction_of(after) > fraction_of(before)
            if deed[0] in ("away", "back") and deed[1] == name:
                self.assertEqual(rises, deed[0] == "back")
            else:
                self.assertEqual(rises, deed[0] in ("put", "more", "away"))
