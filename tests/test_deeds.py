"""Rows of deeds: what is promised behind each of them, whatever the row."""

import random
import time
import unittest

from evenyoke.asks import tried_on
from evenyoke.dealing import deal_evenly
from evenyoke.house import House
from tests.helpers import (SIXTY, Book, HouseCase, book_of, do, draw_deed, fraction_of, fractions_of, house_after,
                           house_of, loads_by_trial, loads_in, named_chores, named_hands, picture_of,
                           steep_chores, wide_chores)


def levelling_deed(rng, house):
    """A deed by which two layers may become one, or None where there is none."""
    found = []
    layers = house.layers()
    for upper, lower in zip(layers, layers[1:]):
        gap = fraction_of(upper[0]) - fraction_of(lower[0])
        rise, fall = gap * len(lower[1]), gap * len(upper[1])
        if rise.denominator == 1:
            found += [("more", chore, int(rise)) for chore in lower[2]]
        if fall.denominator == 1:
            found += [("fewer", chore, int(fall)) for chore in upper[2] if fall < house.work(chore)]
    return rng.choice(found) if found else None


def deeds_of_two_layers(rng, many_upper, many_lower):
    """Chores of which some tie a layer to a greater one, whose hands may deal theirs among them in many ways."""
    hands = named_hands(many_upper + many_lower)
    upper, lower = hands[:many_upper], hands[many_upper:]
    chores = named_chores(20)
    yield from [("hire", hand) for hand in rng.sample(hands, len(hands))]
    for turn in range(3):
        yield ("put", chores.pop(), rng.randrange(1, 3), lower + rng.sample(upper, rng.randrange(1, many_upper + 1)))
    for turn in range(4):
        yield ("put", chores.pop(), many_upper * rng.randrange(2, 5), upper)


class RowsCase(HouseCase):
    def go_on(self, rng, house, book, turns, hands, chores, highest):
        """Deeds by drawing, each checked.

        Told is how many were done, how many were refused, and how often behind one the shares were others than if
        all were dealt anew.
        """
        done = refused = others = 0
        for turn in range(turns):
            deed = levelling_deed(rng, house) if rng.randrange(3) == 0 else None
            deed = deed or draw_deed(rng, book, hands, chores, highest)
            error = book.refusal_of(deed)
            if error is None:
                self.assertDeed(house, book, deed)
                done += 1
            else:
                before = picture_of(house)
                self.assertRefused(error, do, house, deed)
                self.assertEqual(picture_of(house), before)
                refused += 1
            self.assertHouse(house, book)
            others += self.rows_of(house, book, house.shares, (0, 1)) != deal_evenly(*book.numbers())
        return done, refused, others


class TestRows(RowsCase):
    def test_small_houses(self):
        rng = random.Random(91)
        for turn in range(25):
            highest = rng.choice([1, 2, 6, 30, SIXTY])
            counts = self.go_on(rng, House(), Book(), 60, named_hands(rng.randrange(1, 7)), named_chores(8), highest)
            self.assertGreater(min(counts[:2]), 2)

    def test_a_long_row(self):
        rng = random.Random(92)
        self.go_on(rng, House(), Book(), 800, named_hands(9), named_chores(14), 12)

    def test_the_loads_by_going_through_all_sets(self):
        rng = random.Random(93)
        for turn in range(15):
            house, book = House(), Book()
            self.go_on(rng, house, book, 40, named_hands(5), named_chores(6), rng.choice([2, 9, SIXTY]))
            self.assertEqual(fractions_of(loads_in(house).values()), loads_by_trial(*book.numbers()))

    def test_shares_stay_that_would_not_be_dealt_anew(self):
        # Else these rows could not tell a house that keeps shares from one that deals all anew behind each deed.
        rng = random.Random(94)
        others = 0
        for turn in range(60):
            house, book = House(), Book()
            for deed in deeds_of_two_layers(rng, rng.randrange(2, 6), rng.randrange(1, 5)):
                self.assertDeed(house, book, deed)
            upper, lower = house.layers()
            rise = (upper[0][0] - fraction_of(lower[0])) * len(lower[1])
            self.assertDeed(house, book, ("more", lower[2][0], int(rise)))
            self.assertEqual(len(house.layers()), 1)
            others += self.go_on(rng, house, book, 8, named_hands(10), lower[2], 6)[2]
        self.assertGreater(others, 60)

    def test_shares_stay_where_two_layers_become_one(self):
        house = house_after(("hire", "ann"), ("hire", "bob"), ("hire", "cy"), ("put", "gate", 1, ["ann", "cy"]),
                            ("put", "roof", 2, ["ann", "bob"]), ("put", "barn", 2, ["ann", "bob"]))
        before = [house.shares("roof"), house.shares("barn")]
        self.assertEqual(house.more("gate", 1), [("cy", (1, 1), (2, 1))])
        self.assertEqual(house.layers(), [((2, 1), ["ann", "bob", "cy"], ["gate", "roof", "barn"])])
        self.assertEqual([house.shares("roof"), house.shares("barn")], before)
        self.assertEqual(house.fewer("gate", 1), [("cy", (2, 1), (1, 1))])
        self.assertEqual([house.shares("roof"), house.shares("barn")], before)


def same_house(book, chores):
    """A house of the same hands, chores put in the order told, without the deeds between."""
    house = House()
    for hand in book.crew:
        house.hire(hand)
    for chore in chores:
        work, names = book.tasks[chore]
        house.put(chore, work, names)
    for hand in book.crew:
        if not book.crew[hand]:
            house.away(hand)
    return house


class TestOtherRows(RowsCase):
    def test_the_same_hands_and_chores_by_another_row(self):
        rng = random.Random(95)
        for turn in range(30):
            house, book = House(), Book()
            self.go_on(rng, house, book, 40, named_hands(6), named_chores(8), rng.choice([1, 3, 20]))
            self.assertSame(house, same_house(book, list(book.tasks)))
            self.assertSame(house, same_house(book, rng.sample(list(book.tasks), len(book.tasks))))

    def assertSame(self, house, other):
        self.assertEqual(loads_in(house), loads_in(other))
        self.assertEqual(house.hands(), other.hands())
        self.assertEqual(sorted(house.chores()), sorted(other.chores()))
        self.assertEqual(sorted(house.waiting()), sorted(other.waiting()))
        self.assertEqual([(load, hands, sorted(chores)) for load, hands, chores in house.layers()],
                         [(load, hands, sorted(chores)) for load, hands, chores in other.layers()])

    def test_a_deed_and_its_undoing(self):
        house, hands, chores = house_of([7, 5, 2, 9], [[0, 1], [1, 2], [0, 3], [2]], 4)
        loads, layers = loads_in(house), house.layers()
        for deed, undone in [(("more", chores[1], 6), ("fewer", chores[1], 6)),
                             (("away", hands[1]), ("back", hands[1])),
                             (("put", "new", 40, hands), ("drop", "new")), (("away", hands[2]), ("back", hands[2]))]:
            told = do(house, deed)
            self.assertNotEqual(told, [])
            self.assertEqual(do(house, undone), [(name, after, before) for name, before, after in told])
            self.assertEqual(loads_in(house), loads)
            self.assertEqual(house.layers(), layers)


class TestBetweenDeeds(RowsCase):
    def test_shares_and_pieces_are_the_same_each_time(self):
        rng = random.Random(96)
        house, hands, chores = house_of(*wide_chores(rng, 12, 9, 50, 2))
        house.away(hands[3])
        before = picture_of(house)
        for deed in [("more", chores[0], 1), ("away", hands[0]), ("back", hands[3]), ("drop", chores[5])]:
            tried_on(house, deed)
            self.assertEqual(picture_of(house), before)
        for deed in [("more", chores[0], 0), ("away", hands[3]), ("hire", hands[1]), ("put", "Shed", 1, hands)]:
            with self.assertRaises(ValueError):
                do(house, deed)
            with self.assertRaises(ValueError):
                tried_on(house, deed)
            self.assertEqual(picture_of(house), before)


class TestGreatHouses(RowsCase):
    def assert_without_delay(self, house, hands, chores):
        """Each deed and each question is answered within a second, though this machine be slow."""
        deeds = []
        for number in range(0, 40, 3):
            deeds += [("more", chores[number], SIXTY), ("away", hands[number]), ("fewer", chores[number], SIXTY),
                      ("back", hands[number]), ("drop", chores[number]), ("put", chores[number], SIXTY, hands[::5])]
        for deed in deeds:
            start = time.monotonic()
            do(house, deed)
            self.assertLess(time.monotonic() - start, 1)
        for chore in chores:
            start = time.monotonic()
            house.pieces(chore)
            house.layers()
            self.assertLess(time.monotonic() - start, 1)

    def test_forty_hands_and_forty_chores(self):
        rng = random.Random(97)
        for works, doers, many in [wide_chores(rng), wide_chores(rng, figures=1), steep_chores(),
                                   wide_chores(rng, doers_in_all=1600)]:
            self.assert_without_delay(*house_of(works, doers, many))

    def test_rows_of_deeds_in_a_great_house(self):
        rng = random.Random(98)
        great = wide_chores(rng)
        house, hands, chores = house_of(*great)
        book = book_of(*great)
        self.assertHouse(house, book)
        self.go_on(rng, house, book, 50, hands + ["more"], chores + ["more"], SIXTY)


if __name__ == "__main__":
    unittest.main()
