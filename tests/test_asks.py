import random
import unittest
from copy import deepcopy
from fractions import Fraction

from evenyoke.asks import limit_of, tried_on, why_so
from evenyoke.errors import NoChore, NoDeed, NoHand, NoName, NotSo, NoWork, TooMany, Twice
from evenyoke.house import House
from tests.helpers import (DEED_WORDS, NO_NAMES, SIXTY, Book, HouseCase, do, draw_deed, fraction_of, house_after,
                           house_of, loads_in, named_chores, named_hands, picture_of, wide_chores)


def drawn_houses(rng, turns, hands=6, chores=8):
    for turn in range(turns):
        house, book = House(), Book()
        highest = rng.choice([1, 4, 30, SIXTY])
        for step in range(40):
            deed = draw_deed(rng, book, named_hands(hands), named_chores(chores), highest)
            if book.refusal_of(deed) is None:
                do(house, deed)
                book.note(deed)
        yield house, book


def part(fraction):
    return (fraction.numerator, fraction.denominator)


class AsksCase(HouseCase):
    def setUp(self):
        super().setUp()
        self.house = house_after(("hire", "cy"), ("hire", "ann"), ("hire", "bob"), ("hire", "dan"), ("hire", "eve"),
                                 ("put", "roof", 7, ["bob", "ann"]), ("put", "gate", 2, ["dan"]),
                                 ("put", "fence", 1, ["bob", "cy"]), ("put", "barn", 5, ["dan", "ann"]),
                                 ("away", "dan"))

    def assertClosed(self, house, book, names, chores):
        """No chore has a doer there that is not among the hands; both lists stand in the house's order."""
        self.assertIs(type(names), list)
        self.assertIs(type(chores), list)
        self.assertEqual(names, [name for name in house.hands() if name in names])
        self.assertEqual(chores, [chore for chore in house.chores()
                                  if {name for name, share in house.shares(chore)} & set(names)])
        for chore in chores:
            self.assertLessEqual(set(book.doers_of(chore)), set(names))


class TestLimit(AsksCase):
    def test_below_at_and_above_loads(self):
        upper = ["ann", "bob"], ["roof", "barn"]
        lower = ["cy", "ann", "bob"], ["roof", "fence", "barn"]
        for level, told in [((0, 1), ("no", *lower)), ((1, 2), ("no", *lower)), ((1, 1), ("no", *upper)),
                            ((11, 2), ("no", *upper)), ((SIXTY, SIXTY - 1), ("no", *upper)), ((6, 1), ("yes",)),
                            ((13, 2), ("yes",)), ((SIXTY, 1), ("yes",)), ((6 * SIXTY - 1, SIXTY), ("no", *upper)),
                            ((6 * SIXTY + 1, SIXTY), ("yes",)), ((SIXTY - 1, SIXTY), ("no", *lower))]:
            answer = limit_of(self.house, level)
            self.assertIs(type(answer), tuple)
            self.assertEqual(answer, told)

    def test_where_nothing_is_dealt(self):
        for house in (House(), house_after(("hire", "ann")),
                      house_after(("hire", "ann"), ("put", "roof", 3, ["ann"]), ("away", "ann"))):
            self.assertEqual(limit_of(house, (0, 1)), ("yes",))

    def test_many(self):
        for house, book in drawn_houses(random.Random(101), 60):
            loads = {name: fraction_of(load) for name, load in loads_in(house).items()}
            for level in {Fraction(0), Fraction(1, 3)} | {load + step for load in loads.values() for step in (0, 1)}:
                told = limit_of(house, part(level))
                above = [name for name in house.hands() if loads[name] > level]
                if above:
                    self.assertEqual(told[:2], ("no", above))
                    self.assertEqual(len(told), 3)
                    self.assertClosed(house, book, told[1], told[2])
                    self.assertGreater(sum(house.work(chore) for chore in told[2]), level * len(above))
                else:
                    self.assertEqual(told, ("yes",))

    def test_told_lists_are_the_askers_own(self):
        before = picture_of(self.house)
        told = limit_of(self.house, (0, 1))
        told[1].clear()
        told[2].append("more")
        self.assertEqual(picture_of(self.house), before)
        self.assertEqual(limit_of(self.house, (0, 1)), ("no", ["cy", "ann", "bob"], ["roof", "fence", "barn"]))


class TestWhy(AsksCase):
    def test_each_hand(self):
        upper = ((6, 1), ["ann", "bob"], ["roof", "barn"])
        for name, told in [("ann", upper), ("bob", upper), ("cy", ((1, 1), ["cy", "ann", "bob"], ["roof", "fence",
                                                                                                  "barn"])),
                           ("eve", ((0, 1), ["cy", "ann", "bob", "eve"], ["roof", "fence", "barn"])),
                           ("dan", ((0, 1), [], []))]:
            answer = why_so(self.house, name)
            self.assertIs(type(answer), tuple)
            self.assertEqual(answer, told)

    def test_where_there_are_no_chores(self):
        house = house_after(("hire", "bob"), ("hire", "ann"))
        self.assertEqual(why_so(house, "ann"), ((0, 1), ["bob", "ann"], []))
        house.away("bob")
        self.assertEqual(why_so(house, "ann"), ((0, 1), ["ann"], []))
        self.assertEqual(why_so(house, "bob"), ((0, 1), [], []))

    def test_of_a_name_that_no_hand_has(self):
        for name in ["roof", "fay"] + NO_NAMES:
            self.assertRefused(NoHand, why_so, self.house, name)

    def test_many(self):
        for house, book in drawn_houses(random.Random(102), 60):
            loads = {name: fraction_of(load) for name, load in loads_in(house).items()}
            for name in house.hands():
                load, names, chores = why_so(house, name)
                self.assertEqual(load, house.load(name))
                if book.crew[name]:
                    self.assertEqual(names, [other for other in house.hands() if book.crew[other]
                                             and loads[other] >= loads[name]])
                    self.assertClosed(house, book, names, chores)
                else:
                    self.assertEqual((load, names, chores), ((0, 1), [], []))

    def test_told_lists_are_the_askers_own(self):
        before = picture_of(self.house)
        for name in ("ann", "dan"):
            told = why_so(self.house, name)
            kept = deepcopy(told)
            told[1].append("more")
            told[2].append("more")
            self.assertEqual(why_so(self.house, name), kept)
        self.assertEqual(picture_of(self.house), before)


class TestTried(AsksCase):
    def try_and_do(self, house, deed):
        before, handed = picture_of(house), deepcopy(deed)
        told = tried_on(house, deed)
        self.assertEqual(deed, handed)
        self.assertEqual(picture_of(house), before)
        self.assertEqual(told, do(house, deed))
        return told

    def test_each_deed(self):
        for deed, told in [(("hire", "fay"), []),
                           (("put", "shed", 4, ["fay", "eve"]), [("eve", (0, 1), (2, 1)), ("fay", (0, 1), (2, 1))]),
                           (("more", "shed", 2), [("eve", (2, 1), (3, 1)), ("fay", (2, 1), (3, 1))]),
                           (("fewer", "shed", 1), [("eve", (3, 1), (5, 2)), ("fay", (3, 1), (5, 2))]),
                           (("away", "eve"), [("eve", (5, 2), (0, 1)), ("fay", (5, 2), (5, 1))]),
                           (("more", "gate", 1), []),
                           (("back", "dan"), [("ann", (6, 1), (5, 1)), ("bob", (6, 1), (5, 1)),
                                              ("dan", (0, 1), (5, 1))]),
                           (("drop", "roof"), [("cy", (1, 1), (1, 2)), ("ann", (5, 1), (4, 1)), ("bob", (5, 1), (1, 2)),
                                               ("dan", (5, 1), (4, 1))])]:
            self.assertEqual(self.try_and_do(self.house, deed), told)

    def test_refused_as_there(self):
        for error, deed in [(NoName, ("hire", "Fay")), (Twice, ("hire", "ann")), (NoName, ("put", "", 0, [])),
                            (Twice, ("put", "roof", 0, [])), (NoWork, ("put", "shed", 0, [])),
                            (NoHand, ("put", "shed", 1, [])), (Twice, ("put", "shed", 1, ["ann", "ann"])),
                            (NoChore, ("drop", "shed")), (NoChore, ("more", "shed", 0)), (NoWork, ("more", "roof", 0)),
                            (NoChore, ("fewer", "shed", 0)), (NoWork, ("fewer", "roof", 7)), (NoHand, ("away", "fay")),
                            (NotSo, ("away", "dan")), (NoHand, ("back", "fay")), (NotSo, ("back", "ann"))]:
            before = picture_of(self.house)
            self.assertRefused(error, tried_on, self.house, deed)
            self.assertEqual(picture_of(self.house), before)
            self.assertRefused(error, do, self.house, deed)

    def test_too_many(self):
        house, hands, chores = house_of([1] * 40, [[0]] * 40, 40)
        self.assertRefused(TooMany, tried_on, house, ("hire", "fay"))
        self.assertRefused(TooMany, tried_on, house, ("put", "shed", 1, hands))

    def test_of_another_word(self):
        for deed in [("fly", "ann"), ("load", "ann"), ("shares", "roof"), ("", "ann"), ("Hire", "fay"),
                     ("try", "hire", "fay"), ("hire fay",), ("twin",), ("layers",), ("settle", {}, {}, None),
                     ("move", "ann", False)]:
            before = picture_of(self.house)
            self.assertRefused(NoDeed, tried_on, self.house, deed)
            self.assertEqual(picture_of(self.house), before)

    def test_many(self):
        rng = random.Random(103)
        for house, book in drawn_houses(rng, 40):
            for turn in range(10):
                deed = draw_deed(rng, book, named_hands(7), named_chores(9), 9)
                error = book.refusal_of(deed)
                if error is None:
                    self.try_and_do(house, deed)
                    book.note(deed)
                else:
                    self.assertRefused(error, tried_on, house, deed)
                self.assertHouse(house, book)

    def test_names_handed_in_may_be_changed_behind(self):
        names = ["eve", "cy"]
        told = tried_on(self.house, ("put", "shed", 5, names))
        self.assertEqual(names, ["eve", "cy"])
        kept = list(told)
        names.clear()
        self.house.put("shed", 5, ["cy", "eve"])
        self.assertEqual(told, kept)
        told.clear()
        self.assertEqual(tried_on(self.house, ("drop", "shed")), [("cy", (3, 1), (1, 1)), ("eve", (3, 1), (0, 1))])

    def test_tried_deeds_do_not_gather(self):
        for turn in range(3):
            self.assertEqual(tried_on(self.house, ("more", "roof", 2)),
                             [("ann", (6, 1), (7, 1)), ("bob", (6, 1), (7, 1))])

    def test_each_word_in_a_great_house(self):
        house, hands, chores = house_of(*wide_chores(random.Random(104), 39, 39, 290))
        house.away(hands[7])
        house.more(chores[2], SIXTY)
        deeds = {"hire": ("hire", "fay"), "put": ("put", "shed", SIXTY, hands), "drop": ("drop", chores[0]),
                 "more": ("more", chores[1], SIXTY), "fewer": ("fewer", chores[2], SIXTY), "away": ("away", hands[0]),
                 "back": ("back", hands[7])}
        self.assertEqual(sorted(deeds), sorted(DEED_WORDS))
        for deed in deeds.values():
            self.try_and_do(house, deed)
        for name in hands:
            why_so(house, name)
            limit_of(house, house.load(name))


if __name__ == "__main__":
    unittest.main()
