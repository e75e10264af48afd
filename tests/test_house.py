import unittest

from evenyoke.errors import NoChore, NoHand, NoName, NotSo, NoWork, TooMany, Twice
from evenyoke.house import House
from tests.helpers import (NO_NAMES, SIXTY, Book, HouseCase, do, house_after, named_chores, named_hands, picture_of)

LONG = "abcdefghijkl"
EDGE_NAMES = ["a", "z", LONG, "zzzzzzzzzzzz", "hire", "none"]


class TestNames(HouseCase):
    def test_a_house_has_nothing_at_first(self):
        self.assertHouse(House(), Book())
        self.assertEqual(House().layers(), [])

    def test_names_of_one_and_of_twelve_letters_are_taken(self):
        house = House()
        for name in EDGE_NAMES:
            self.assertEqual(house.hire(name), [])
        for name in EDGE_NAMES:
            self.assertEqual(house.put(name, 1, [name]), [(name, (0, 1), (1, 1))])
        self.assertEqual(house.hands(), EDGE_NAMES)
        self.assertEqual(house.chores(), EDGE_NAMES)

    def test_what_is_no_name_is_refused(self):
        house = house_after(("hire", "ann"))
        for name in NO_NAMES + [None, 7, ["a"], ("a",)]:
            self.assertRefused(NoName, house.hire, name)
            self.assertRefused(NoName, house.put, name, 1, ["ann"])
        self.assertEqual(house.hands(), ["ann"])
        self.assertEqual(house.chores(), [])

    def test_a_hand_and_a_chore_of_one_name(self):
        house = house_after(("hire", "ann"), ("hire", "bob"), ("put", "ann", 5, ["bob"]))
        self.assertEqual(house.load("ann"), (0, 1))
        self.assertEqual(house.shares("ann"), [("bob", (5, 1))])
        self.assertEqual(house.drop("ann"), [("bob", (5, 1), (0, 1))])
        self.assertEqual(house.hands(), ["ann", "bob"])
        self.assertRefused(NoChore, house.work, "ann")

    def test_a_word_that_is_no_name_is_no_hand_and_no_chore(self):
        house = house_after(("hire", "ann"), ("put", "roof", 2, ["ann"]))
        for name in NO_NAMES:
            for question in (house.load, house.is_there, house.away, house.back):
                self.assertRefused(NoHand, question, name)
            for question in (house.shares, house.work, house.pieces, house.drop):
                self.assertRefused(NoChore, question, name)
            self.assertRefused(NoHand, house.put, "gate", 1, ["ann", name])


class TestRefusals(HouseCase):
    def setUp(self):
        super().setUp()
        self.house = house_after(("hire", "ann"), ("hire", "bob"), ("hire", "cy"), ("put", "roof", 4, ["bob", "ann"]),
                                 ("put", "gate", 3, ["cy"]), ("away", "cy"))

    def refuse(self, error, *deed):
        before = picture_of(self.house)
        self.assertRefused(error, do, self.house, deed)
        self.assertEqual(picture_of(self.house), before)

    def test_hire(self):
        self.refuse(NoName, "hire", "Ann")
        self.refuse(Twice, "hire", "ann")
        self.refuse(Twice, "hire", "cy")

    def test_the_forty_first_hand(self):
        house = self.house = house_after(*[("hire", name) for name in named_hands(39)])
        house.hire("last")
        self.refuse(TooMany, "hire", "more")
        self.refuse(Twice, "hire", "last")
        self.refuse(NoName, "hire", "")
        house.away("last")
        self.refuse(TooMany, "hire", "more")
        self.assertEqual(house.hands(), named_hands(39) + ["last"])

    def test_put(self):
        self.refuse(NoName, "put", "Roof", 1, ["ann"])
        self.refuse(Twice, "put", "roof", 1, ["ann"])
        self.refuse(Twice, "put", "gate", 1, ["ann"])
        self.refuse(NoWork, "put", "new", 0, ["ann"])
        self.refuse(NoWork, "put", "new", -SIXTY, ["ann"])
        self.refuse(NoHand, "put", "new", 1, [])
        self.refuse(NoHand, "put", "new", 1, ["ann", "roof"])
        self.refuse(Twice, "put", "new", 1, ["ann", "bob", "ann"])
        self.refuse(Twice, "put", "new", 1, ["cy", "cy"])

    def test_put_of_several_wrongs_refuses_the_first(self):
        # Each row has the wrongs of those behind it, too.
        self.refuse(NoName, "put", "roof1", 0, ["dan", "ann", "ann"])
        self.refuse(NoName, "put", "", 0, [])
        self.refuse(Twice, "put", "roof", 0, ["dan", "ann", "ann"])
        self.refuse(Twice, "put", "roof", 0, [])
        self.refuse(NoWork, "put", "new", 0, ["dan", "ann", "ann"])
        self.refuse(NoWork, "put", "new", 0, [])
        self.refuse(NoHand, "put", "new", 1, ["ann", "ann", "dan"])
        self.refuse(NoHand, "put", "new", 1, ["dan", "dan"])

    def test_the_forty_first_chore(self):
        house = self.house
        chores = named_chores(38)
        for chore in chores[:-1]:
            house.put(chore, 1, ["ann"])
        house.put(chores[-1], 1, ["cy"])
        self.refuse(TooMany, "put", "new", 1, ["ann"])
        self.refuse(TooMany, "put", "new", 1, ["cy"])
        self.refuse(Twice, "put", "new", 1, ["ann", "ann"])
        self.refuse(NoHand, "put", "new", 1, [])
        self.refuse(NoWork, "put", "new", 0, ["ann"])
        self.refuse(Twice, "put", "roof", 1, ["ann"])
        self.refuse(NoName, "put", "Roof", 1, ["ann"])
        house.drop("roof")
        house.put("new", 1, ["ann"])
        self.assertEqual(house.chores(), ["gate"] + chores + ["new"])

    def test_drop(self):
        self.refuse(NoChore, "drop", "ann")
        self.refuse(NoChore, "drop", "")
        self.house.drop("roof")
        self.refuse(NoChore, "drop", "roof")

    def test_more_and_fewer(self):
        for word in ("more", "fewer"):
            self.refuse(NoChore, word, "ann", 1)
            self.refuse(NoChore, word, "ann", 0)
            for chore in ("roof", "gate"):
                self.refuse(NoWork, word, chore, 0)
                self.refuse(NoWork, word, chore, -1)
                self.refuse(NoWork, word, chore, -SIXTY)
        self.refuse(NoWork, "fewer", "roof", 4)
        self.refuse(NoWork, "fewer", "roof", 5)
        self.refuse(NoWork, "fewer", "gate", SIXTY)
        self.house.fewer("roof", 3)
        self.assertEqual(self.house.work("roof"), 1)
        self.refuse(NoWork, "fewer", "roof", 1)

    def test_away_and_back(self):
        for word in ("away", "back"):
            self.refuse(NoHand, word, "roof")
            self.refuse(NoHand, word, "")
        self.refuse(NotSo, "away", "cy")
        self.refuse(NotSo, "back", "ann")
        self.house.away("ann")
        self.refuse(NotSo, "away", "ann")
        self.house.back("ann")
        self.refuse(NotSo, "back", "ann")

    def test_questions(self):
        for question in (self.house.load, self.house.is_there):
            for name in ("roof", "dan", ""):
                self.assertRefused(NoHand, question, name)
        for question in (self.house.shares, self.house.pieces, self.house.work):
            for name in ("ann", "fence", ""):
                self.assertRefused(NoChore, question, name)


class TestDeeds(HouseCase):
    def test_what_deeds_tell(self):
        house = House()
        self.assertEqual(house.hire("bob"), [])
        self.assertEqual(house.put("roof", 3, ["bob"]), [("bob", (0, 1), (3, 1))])
        self.assertEqual(house.hire("ann"), [])
        self.assertEqual(house.put("gate", 2, ["ann", "bob"]), [("ann", (0, 1), (2, 1))])
        self.assertEqual(house.more("gate", 2), [("bob", (3, 1), (7, 2)), ("ann", (2, 1), (7, 2))])
        self.assertEqual(house.away("bob"), [("bob", (7, 2), (0, 1)), ("ann", (7, 2), (4, 1))])
        self.assertEqual(house.more("roof", 5), [])
        self.assertEqual(house.back("bob"), [("bob", (0, 1), (8, 1))])
        self.assertEqual(house.fewer("roof", 7), [("bob", (8, 1), (5, 2)), ("ann", (4, 1), (5, 2))])
        self.assertEqual(house.drop("gate"), [("bob", (5, 2), (1, 1)), ("ann", (5, 2), (0, 1))])
        self.assertEqual(house.drop("roof"), [("bob", (1, 1), (0, 1))])

    def test_what_is_done_to_a_chore_that_waits_tells_nothing(self):
        house = house_after(("hire", "ann"), ("hire", "bob"), ("put", "roof", 4, ["bob"]), ("away", "ann"))
        for deed in [("put", "gate", 7, ["ann"]), ("more", "gate", 5), ("fewer", "gate", 11), ("drop", "gate"),
                     ("hire", "cy"), ("back", "ann"), ("away", "ann")]:
            self.assertEqual(do(house, deed), [])
        self.assertEqual(house.shares("roof"), [("bob", (4, 1))])

    def test_a_chore_comes_to_wait_and_is_dealt_again(self):
        house = house_after(("hire", "ann"), ("hire", "bob"), ("put", "roof", 4, ["bob", "ann"]), ("away", "ann"))
        self.assertEqual(house.away("bob"), [("bob", (4, 1), (0, 1))])
        self.assertEqual(house.waiting(), ["roof"])
        self.assertEqual(house.back("ann"), [("ann", (0, 1), (4, 1))])
        self.assertEqual(house.shares("roof"), [("ann", (4, 1))])
        self.assertEqual(house.back("bob"), [("ann", (4, 1), (2, 1)), ("bob", (0, 1), (2, 1))])

    def test_a_chore_put_again_stands_last(self):
        house = house_after(("hire", "ann"), ("put", "roof", 1, ["ann"]), ("put", "gate", 1, ["ann"]))
        house.drop("roof")
        house.put("roof", 2, ["ann"])
        self.assertEqual(house.chores(), ["gate", "roof"])
        house.more("gate", 1)
        self.assertEqual(house.chores(), ["gate", "roof"])
        self.assertEqual(house.layers(), [((4, 1), ["ann"], ["gate", "roof"])])

    def test_names_may_stand_in_any_order_and_name_hands_that_are_away(self):
        house = house_after(("hire", "cy"), ("hire", "bob"), ("hire", "ann"), ("away", "bob"))
        house.put("roof", 6, ["ann", "bob", "cy"])
        self.assertEqual(house.shares("roof"), [("cy", (3, 1)), ("ann", (3, 1))])
        self.assertEqual(house.back("bob"), [("cy", (3, 1), (2, 1)), ("bob", (0, 1), (2, 1)), ("ann", (3, 1), (2, 1))])
        self.assertEqual(house.shares("roof"), [("cy", (2, 1)), ("bob", (2, 1)), ("ann", (2, 1))])

    def test_the_list_of_names_stays_and_may_be_changed_behind(self):
        house = house_after(("hire", "ann"), ("hire", "bob"), ("hire", "cy"), ("away", "ann"))
        names = ["cy", "ann"]
        house.put("roof", 6, names)
        self.assertEqual(names, ["cy", "ann"])
        names[0] = "bob"
        names.append("bob")
        house.back("ann")
        self.assertEqual(house.shares("roof"), [("ann", (3, 1)), ("cy", (3, 1))])
        names.clear()
        house.more("roof", 2)
        self.assertEqual(house.shares("roof"), [("ann", (4, 1)), ("cy", (4, 1))])

    def test_works_beyond_sixty_figures(self):
        house = house_after(("hire", "ann"), ("hire", "bob"), ("put", "roof", SIXTY, ["ann", "bob"]))
        for turn in range(9):
            house.more("roof", SIXTY)
        self.assertEqual(house.work("roof"), 10 * SIXTY)
        self.assertEqual(house.load("bob"), (5 * SIXTY, 1))
        self.assertEqual(house.more("roof", 1)[0], ("ann", (5 * SIXTY, 1), (10 * SIXTY + 1, 2)))


class TestQuestions(HouseCase):
    def setUp(self):
        super().setUp()
        self.house = house_after(("hire", "cy"), ("hire", "ann"), ("hire", "bob"), ("hire", "dan"),
                                 ("put", "roof", 7, ["bob", "ann"]), ("put", "gate", 2, ["dan"]),
                                 ("put", "fence", 1, ["bob", "cy"]), ("put", "barn", 5, ["dan", "ann"]),
                                 ("put", "attic", 9, ["dan"]), ("away", "dan"))

    def test_with_one_away(self):
        house = self.house
        self.assertEqual(house.hands(), ["cy", "ann", "bob", "dan"])
        self.assertEqual(house.chores(), ["roof", "gate", "fence", "barn", "attic"])
        self.assertEqual([house.is_there(name) for name in house.hands()], [True, True, True, False])
        self.assertEqual([house.load(name) for name in house.hands()], [(1, 1), (6, 1), (6, 1), (0, 1)])
        self.assertEqual([house.work(chore) for chore in house.chores()], [7, 2, 1, 5, 9])
        self.assertEqual(house.waiting(), ["gate", "attic"])
        self.assertEqual(house.shares("roof"), [("ann", (1, 1)), ("bob", (6, 1))])
        self.assertEqual(house.shares("barn"), [("ann", (5, 1))])
        self.assertEqual(house.shares("gate"), [])
        self.assertEqual(house.pieces("roof"), [("ann", 1), ("bob", 6)])
        self.assertEqual(house.pieces("fence"), [("cy", 1)])
        self.assertEqual(house.pieces("attic"), [])
        self.assertEqual(house.layers(), [((6, 1), ["ann", "bob"], ["roof", "barn"]), ((1, 1), ["cy"], ["fence"])])

    def test_pieces_of_loads_that_are_not_whole(self):
        house = self.house
        house.more("roof", 1)
        self.assertEqual(house.load("ann"), (13, 2))
        self.assertEqual(house.shares("roof"), [("ann", (3, 2)), ("bob", (13, 2))])
        self.assertIn(house.pieces("roof"), ([("ann", 1), ("bob", 7)], [("ann", 2), ("bob", 6)]))
        self.assertEqual(house.pieces("barn"), [("ann", 5)])

    def test_layers(self):
        house = self.house
        house.drop("fence")
        self.assertEqual(house.layers(), [((6, 1), ["ann", "bob"], ["roof", "barn"]), ((0, 1), ["cy"], [])])
        house.back("dan")
        self.assertEqual(house.layers(), [((11, 1), ["dan"], ["gate", "attic"]),
                                          ((6, 1), ["ann", "bob"], ["roof", "barn"]), ((0, 1), ["cy"], [])])
        for name in house.hands():
            house.away(name)
        self.assertEqual(house.layers(), [])
        self.assertEqual(house.waiting(), ["roof", "gate", "barn", "attic"])

    def test_layers_where_there_are_no_chores(self):
        self.assertEqual(house_after(("hire", "bob"), ("hire", "ann")).layers(), [((0, 1), ["bob", "ann"], [])])

    def test_told_lists_are_the_askers_own(self):
        house = self.house
        house.more("roof", 1)
        before = picture_of(house)
        for told in (house.hands(), house.chores(), house.waiting(), house.shares("roof"), house.pieces("roof"),
                     house.shares("gate"), house.pieces("gate"), house.more("gate", 1)):
            told.append("more")
            told.reverse()
            told.pop(0)
        house.fewer("gate", 1)
        layers = house.layers()
        for load, hands, chores in layers:
            hands.clear()
            chores.append("more")
        layers.clear()
        self.assertEqual(picture_of(house), before)

    def test_told_lists_stay_as_they_are(self):
        house = self.house
        before, kept = picture_of(house), picture_of(house)
        house.hire("eve")
        house.put("shed", 8, ["eve", "cy"])
        house.drop("roof")
        house.back("dan")
        self.assertEqual(before, kept)

    def test_two_houses_have_nothing_in_common(self):
        other = House()
        self.assertHouse(other, Book())
        other.hire("ann")
        self.assertEqual(self.house.hands(), ["cy", "ann", "bob", "dan"])
        self.assertEqual(other.hands(), ["ann"])


if __name__ == "__main__":
    unittest.main()
