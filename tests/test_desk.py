import random
import unittest

from evenyoke.desk import Desk
from evenyoke.errors import NoChore, NoHand, NoLine, NoName, NotSo, NoWork, TooMany, Twice
from tests.helpers import (NO_NAMES, SIXTY, Book, HouseCase, draw_deed, named_chores, named_hands, wide_chores)

# Lines that are refused whatever the house is like.
NO_LINES = [
    "", " ", "  ", "fly", "fly ann", "Hire ann", "HIRE ann", "hire", "hire ann bob", " hire fay", "hire fay ",
    "hire  fay", "hire fay  ", "put", "put shed", "put shed 3", "put  3 ann", "put shed ann", "put shed ann 3",
    "put shed 3 ", "put shed 3  ann", "drop", "drop roof gate", "drop ", "more", "more roof", "more roof 1 2",
    "more roof one", "more 1 roof", "fewer", "fewer roof", "fewer roof 1 ann", "away", "away ann bob", "away ", "back",
    "back ann bob", "load", "load ann bob", "load ", "shares", "shares roof gate", "pieces", "pieces roof gate", "work",
    "work roof gate", "there", "there ann bob", "waiting ann", "waiting ", " waiting", "layers ann", "layers ", "limit",
    "limit 1 2", "limit ann", "why", "why ann bob", "why ", "hands", "chores", "hands ann", "try", "try ",
    "try  hire fay", "try hire", "try hire ann bob", "try fly", "try load ann", "try waiting", "try layers",
    "try limit 1", "try why ann", "try shares roof", "try pieces roof", "try work roof", "try there ann",
    "try try hire fay", "try try", "try put shed 3", "try more roof", "try more roof 01", " try hire fay",
    "Try hire fay", "still", "none", "yes", "try hire fay ",
]
NO_NUMBERS = ["", "-", "+", "+1", "01", "00", "-01", "-0", "--1", "1-", "1.0", "1e3", "1_0", "0x1", "a", "1a", "1/1",
              "1/2", "2/1", "1" * 61, "-" + "1" * 61, "1,0", "\u0661", "\u00b2", "1\n", "\t1"]
NO_FRACTIONS = ["", "-", "+1", "01", "-0", "-1", "-1/2", "1/-2", "-1/-2", "1/1", "0/1", "5/1", "0/2", "2/4", "3/3",
                "6/4", "1/0", "0/0", "1/", "/2", "/", "1//2", "1/2/3", "01/2", "1/02", "+1/2", "1/+2", "1/2.0", "1:2",
                "a/b", "1" * 61, "1/" + "2" * 61, "1" * 61 + "/2", "1 /2", "1/ 2", "\u0661/2", "1/\u0662", "1/2/",
                "0/0/0"]


class DeskCase(HouseCase):
    def desk_after(self, *lines):
        desk = Desk()
        for line in lines:
            desk.say(line)
        return desk

    def talk(self, desk, *rows):
        for line, answer in rows:
            told = desk.say(line)
            self.assertIs(type(told), str)
            self.assertEqual((line, told), (line, answer))
            self.assertNotIn("-", told)


class TestLines(DeskCase):
    def test_deeds(self):
        self.talk(Desk(), ("hire ann", "still"), ("hire bob", "still"), ("put roof 4 bob", "bob 0 4"),
                  ("put gate 3 bob ann", "ann 0 3"), ("more gate 2", "ann 3 9/2, bob 4 9/2"),
                  ("away ann", "ann 9/2 0, bob 9/2 9"), ("put barn 7 ann", "still"), ("more barn 1", "still"),
                  ("fewer barn 2", "still"), ("back ann", "ann 0 15/2, bob 9 15/2"),
                  ("fewer gate 1", "ann 15/2 7, bob 15/2 7"), ("drop gate", "ann 7 6, bob 7 4"),
                  ("drop roof", "bob 4 0"), ("drop barn", "ann 6 0"))

    def test_questions(self):
        desk = self.desk_after("hire cy", "hire ann", "hire bob", "hire dan", "put roof 8 bob ann", "put gate 2 dan",
                               "put fence 1 bob cy", "put barn 5 dan ann", "put attic 1 dan", "away dan")
        self.talk(desk, ("load ann", "13/2"), ("load cy", "1"), ("load dan", "0"), ("shares roof", "ann 3/2, bob 13/2"),
                  ("shares fence", "cy 1"), ("shares gate", "none"), ("pieces barn", "ann 5"), ("pieces gate", "none"),
                  ("work roof", "8"), ("work gate", "2"), ("there ann", "yes"), ("there dan", "no"),
                  ("waiting", "gate attic"), ("layers", "13/2: ann bob / roof barn; 1: cy / fence"),
                  ("limit 0", "no cy ann bob / roof fence barn"), ("limit 1", "no ann bob / roof barn"),
                  ("limit 13/2", "yes"), ("limit 6", "no ann bob / roof barn"), ("limit 7", "yes"),
                  ("limit 1/3", "no cy ann bob / roof fence barn"), ("why ann", "13/2: ann bob / roof barn"),
                  ("why cy", "1: cy ann bob / roof fence barn"), ("why dan", "0: /"))
        self.assertIn(desk.say("pieces roof"), ("ann 1, bob 7", "ann 2, bob 6"))

    def test_where_there_are_no_chores(self):
        desk = Desk()
        self.talk(desk, ("layers", "none"), ("waiting", "none"), ("limit 0", "yes"), ("hire bob", "still"),
                  ("hire ann", "still"), ("layers", "0: bob ann /"), ("why ann", "0: bob ann /"), ("away bob", "still"),
                  ("layers", "0: ann /"), ("why bob", "0: /"), ("why ann", "0: ann /"), ("away ann", "still"),
                  ("layers", "none"), ("limit 0", "yes"))

    def test_layers_with_and_without_chores(self):
        desk = self.desk_after("hire ann", "hire bob", "hire cy", "put roof 4 ann bob")
        self.talk(desk, ("layers", "2: ann bob / roof; 0: cy /"), ("why bob", "2: ann bob / roof"),
                  ("why cy", "0: ann bob cy / roof"), ("limit 1", "no ann bob / roof"))

    def test_try_ahead_of_each_deed(self):
        lines = ["hire ann", "hire bob", "put roof 3 ann bob", "put gate 2 ann", "hire cy", "put barn 1 cy", "away cy"]
        desk = self.desk_after(*lines)
        for line, answer in [("hire dan", "still"), ("put shed 6 bob", "ann 5/2 5, bob 5/2 6"),
                             ("drop gate", "ann 5/2 3/2, bob 5/2 3/2"), ("more roof 2", "ann 5/2 7/2, bob 5/2 7/2"),
                             ("fewer roof 2", "ann 5/2 2, bob 5/2 1"), ("away ann", "ann 5/2 0, bob 5/2 3"),
                             ("back cy", "cy 0 1"), ("more barn 1", "still")]:
            self.talk(desk, ("try " + line, answer), ("layers", "5/2: ann bob / roof gate"), ("waiting", "barn"),
                      ("work roof", "3"), ("work barn", "1"))
            self.talk(self.desk_after(*lines), (line, answer))

    def test_names_that_are_words_of_the_desk(self):
        desk = Desk()
        self.talk(desk, ("hire try", "still"), ("hire hire", "still"), ("hire load", "still"),
                  ("put put 4 try hire", "try 0 2, hire 0 2"), ("put try 1 load", "load 0 1"),
                  ("try drop put", "try 2 0, hire 2 0"), ("load load", "1"), ("why try", "2: try hire / put"),
                  ("away try", "try 2 0, hire 2 4"), ("try back try", "try 0 2, hire 4 2"), ("there try", "no"),
                  ("shares put", "hire 4"), ("work try", "1"), ("drop try", "load 1 0"),
                  ("layers", "4: hire / put; 0: load /"))

    def test_numbers_of_many_figures(self):
        nines = "9" * 60
        desk = self.desk_after("hire ann", "hire bob")
        self.talk(desk, (f"put roof {nines} ann bob", f"ann 0 {nines}/2, bob 0 {nines}/2"), (f"limit {nines}/2", "yes"),
                  (f"more roof {nines}", f"ann {nines}/2 {nines}, bob {nines}/2 {nines}"), (f"limit {nines}", "yes"),
                  ("work roof", str(2 * SIXTY)), (f"fewer roof {nines}",
                                                  f"ann {nines} {nines}/2, bob {nines} {nines}/2"),
                  (f"limit 1/{nines}", "no ann bob / roof"))
        for turn in range(30):
            desk.say(f"more roof {nines}")
        self.assertEqual(desk.say("load ann"), f"{31 * SIXTY}/2")
        self.assertGreater(len(desk.say("work roof")), 60)
        self.assertRefused(NoLine, desk.say, "limit " + desk.say("load ann"))
        self.assertRefused(NoLine, desk.say, "more roof " + desk.say("work roof"))

    def test_two_desks_have_nothing_in_common(self):
        desk = self.desk_after("hire ann")
        self.talk(Desk(), ("layers", "none"))
        self.talk(desk, ("layers", "0: ann /"))


class TestNoLine(DeskCase):
    def setUp(self):
        super().setUp()
        self.desk = self.desk_after("hire ann", "hire bob", "hire cy", "put roof 4 ann bob", "put gate 1 cy", "away cy")

    def refuse(self, error, line):
        questions = ["layers", "waiting", "shares roof", "work roof", "work gate", "there cy", "load ann"]
        before = [self.desk.say(question) for question in questions]
        with self.subTest(line):
            self.assertRefused(error, self.desk.say, line)
            self.assertEqual([self.desk.say(question) for question in questions], before)

    def test_lines_that_are_none(self):
        for line in NO_LINES:
            self.refuse(NoLine, line)

    def test_works_that_are_not_written_so(self):
        for word in NO_NUMBERS:
            for line in [f"put shed {word} ann", f"more roof {word}", f"fewer roof {word}"]:
                self.refuse(NoLine, line)
                self.refuse(NoLine, "try " + line)

    def test_fractions_that_are_not_written_so(self):
        for word in NO_FRACTIONS:
            self.refuse(NoLine, f"limit {word}")

    def test_ahead_of_what_the_house_refuses(self):
        for line in ["put roof 01 ann", "put Shed +1 ann", "put shed x dan", "put shed -0 ann ann", "more shed 01",
                     "fewer shed -0", "more roof 00", "fewer roof " + "9" * 61, "hire ann ", "hire Ann bob", "away cy ",
                     "back ann bob", "drop shed shed", "load dan eve", "why dan eve", "shares shed shed",
                     "try hire ann ", "try away cy cy"]:
            self.refuse(NoLine, line)

    def test_what_the_house_refuses(self):
        for error, line in [(NoName, "hire Ann"), (NoName, "hire 7"), (NoName, "hire abcdefghijklm"),
                            (Twice, "hire ann"), (NoName, "put Roof 0 dan"), (NoName, "put 1 1 1"),
                            (Twice, "put roof 0 dan"), (NoWork, "put shed 0 dan"), (NoWork, "put shed -5 ann"),
                            (NoWork, "put shed -" + "9" * 60 + " ann"), (NoHand, "put shed 1 ann ann dan"),
                            (NoHand, "put shed 1 1"), (Twice, "put shed 1 ann bob ann"), (NoChore, "drop shed"),
                            (NoChore, "drop 7"), (NoChore, "more shed 0"), (NoWork, "more roof 0"),
                            (NoWork, "more roof -1"), (NoChore, "fewer shed -1"), (NoWork, "fewer roof 4"),
                            (NoWork, "fewer roof 0"), (NoWork, "fewer gate 1"), (NoHand, "away dan"),
                            (NotSo, "away cy"), (NoHand, "back Ann"), (NotSo, "back ann")]:
            self.refuse(error, line)
            self.refuse(error, "try " + line)
        for error, line in [(NoHand, "load dan"), (NoHand, "load Ann"), (NoHand, "load 1/2"), (NoHand, "why dan"),
                            (NoHand, "why /"), (NoHand, "there roof"), (NoChore, "shares ann"),
                            (NoChore, "pieces shed"), (NoChore, "work 0")]:
            self.refuse(error, line)

    def test_words_that_are_no_names(self):
        for word in NO_NAMES:
            if word != "" and " " not in word:
                self.refuse(NoName, f"hire {word}")
                self.refuse(NoName, f"put {word} 1 ann")
                self.refuse(NoHand, f"put shed 1 ann {word}")
                self.refuse(NoHand, f"load {word}")
                self.refuse(NoChore, f"work {word}")

    def test_too_many(self):
        for name in named_hands(37):
            self.desk.say(f"hire {name}")
        for chore in named_chores(38):
            self.desk.say(f"put {chore} 1 ann")
        self.refuse(TooMany, "hire dan")
        self.refuse(TooMany, "put shed 1 ann")
        self.refuse(TooMany, "try hire dan")


def number(part):
    return str(part[0]) if part[1] == 1 else f"{part[0]}/{part[1]}"


def line_of(deed):
    words = [str(word) for word in deed[:3]] + (deed[3] if deed[0] == "put" else [])
    return " ".join(words)


class TestBesideAHouse(DeskCase):
    """A desk answers in words what its house tells."""

    def assertAnswers(self, desk):
        house = desk.house
        self.assertEqual(desk.say("waiting"), " ".join(house.waiting()) or "none")
        layers = [number(load) + ": " + " ".join(hands) + " /" + "".join(" " + chore for chore in chores)
                  for load, hands, chores in house.layers()]
        self.assertEqual(desk.say("layers"), "; ".join(layers) or "none")
        for name in house.hands():
            self.assertEqual(desk.say(f"load {name}"), number(house.load(name)))
            self.assertEqual(desk.say(f"there {name}"), "yes" if house.is_there(name) else "no")
        for chore in house.chores():
            self.assertEqual(desk.say(f"work {chore}"), str(house.work(chore)))
            self.assertEqual(desk.say(f"shares {chore}"),
                             ", ".join(f"{name} {number(share)}" for name, share in house.shares(chore)) or "none")
            self.assertEqual(desk.say(f"pieces {chore}"),
                             ", ".join(f"{name} {pieces}" for name, pieces in house.pieces(chore)) or "none")

    def test_rows_of_lines(self):
        rng = random.Random(111)
        for turn in range(12):
            desk, book = Desk(), Book()
            for step in range(40):
                deed = draw_deed(rng, book, named_hands(6), named_chores(8), rng.choice([3, 20, SIXTY]))
                line = line_of(deed)
                error = NoLine if deed[0] == "put" and not deed[3] else book.refusal_of(deed)
                if error is not None:
                    self.assertRefused(error, desk.say, line)
                    self.assertRefused(error, desk.say, "try " + line)
                else:
                    told = desk.say("try " + line)
                    self.assertEqual(desk.say(line), told)
                    # No load is below 0.
                    self.assertNotIn("-", told)
                    book.note(deed)
            self.assertHouse(desk.house, book)
            self.assertAnswers(desk)

    def test_a_great_house(self):
        rng = random.Random(112)
        works, doers, many = wide_chores(rng)
        hands, chores = named_hands(many), named_chores(len(works))
        desk = self.desk_after(*[f"hire {hand}" for hand in hands])
        for chore, work, row in zip(chores, works, doers):
            desk.say(f"put {chore} {work} " + " ".join(hands[place] for place in row))
        self.assertAnswers(desk)
        for hand in hands[::3]:
            self.assertEqual(desk.say(f"try away {hand}"), desk.say(f"away {hand}"))
        self.assertAnswers(desk)
        for hand in hands:
            desk.say(f"why {hand}")


if __name__ == "__main__":
    unittest.main()
