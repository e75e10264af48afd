import random
import unittest
from fractions import Fraction

from evenyoke.crowds import loads_by
from evenyoke.dealing import deal_evenly
from evenyoke.upkeep import kept_up
from tests.helpers import SIXTY, ChoresCase, book_of, fraction_of, some_chores, steep_chores, wide_chores


def dealt_by_other_numbers(rng, works, doers, many):
    """An even dealing as it is told where chores and hands have other numbers."""
    chores = rng.sample(range(len(works)), len(works))
    number_of = rng.sample(range(many), many)
    rows = [sorted((number_of[hand], hand) for hand in doers[chore]) for chore in chores]
    told = deal_evenly([works[chore] for chore in chores], [[pair[0] for pair in row] for row in rows], many)
    shares = [None] * len(works)
    for chore, row, parts in zip(chores, rows, told):
        share_of = {pair[1]: part for pair, part in zip(row, parts)}
        shares[chore] = [share_of[hand] for hand in doers[chore]]
    return shares


def some_even_dealing(rng, works, doers, many):
    """Between two even dealings there are others, which are seldom the one that is dealt anew."""
    one = dealt_by_other_numbers(rng, works, doers, many)
    other = dealt_by_other_numbers(rng, works, doers, many)
    shares = []
    for row, other_row in zip(one, other):
        between = [fraction_of(a) / 3 + 2 * fraction_of(b) / 3 for a, b in zip(row, other_row)]
        shares.append([(share.numerator, share.denominator) for share in between])
    return shares


def random_deed(rng, book, word):
    """A deed of this word that is not refused, or None where there is none."""
    there = [hand for hand in book.crew if book.crew[hand]]
    gone = [hand for hand in book.crew if not book.crew[hand]]
    chores = list(book.tasks)
    if word == "hire":
        return ("hire", "newcomer")
    if word == "put":
        hands = list(book.crew)
        work = rng.choice([1, rng.randrange(1, 20), SIXTY])
        return ("put", "new", work, rng.sample(hands, rng.randrange(1, len(hands) + 1)))
    if word in ("away", "back"):
        hands = there if word == "away" else gone
        return (word, rng.choice(hands)) if hands else None
    if not chores:
        return None
    chore = rng.choice(chores)
    work = book.tasks[chore][0]
    if word == "drop":
        return ("drop", chore)
    if word == "more":
        return ("more", chore, rng.choice([1, work, SIXTY]))
    return ("fewer", chore, rng.randrange(1, work)) if work > 1 else None


class UpkeepCase(ChoresCase):
    def keep_up(self, rng, book, deed):
        """The deed's shares of before and now by the book, checked by the interface of upkeep.

        Told is how many rows are kept that would be others if they were dealt anew.
        """
        works, doers, many = book.numbers()
        before = some_even_dealing(rng, works, doers, many)
        old_loads = loads_by(works, doers, many)
        hands = list(book.crew)
        share_of = {}
        for chore, row, shares in zip(book.dealt(), doers, before):
            share_of[chore] = {hands[number]: share for number, share in zip(row, shares)}
        book.note(deed)
        return self.assert_kept_up(book, deed, share_of, old_loads + [(0, 1)] * (len(book.crew) - many))

    def assert_kept_up(self, book, deed, share_of, old_loads):
        works, doers, many = book.numbers()
        shares = [self.row_of(book, deed, chore, share_of) for chore in book.dealt()]
        told = self.ask(kept_up, works, doers, many, shares, old_loads)
        self.assertDealing(works, doers, many, told)
        loads = loads_by(works, doers, many)
        kept = 0
        for hands, row, old, new in zip(doers, told, shares, deal_evenly(works, doers, many)):
            if old is not None and any(s[0] > 0 and loads[h] == old_loads[h] for h, s in zip(hands, old)):
                self.assertEqual(row, old)
                self.assertIsNot(row, old)
                kept += row != new
        return kept

    def row_of(self, book, deed, chore, share_of):
        """As the interface tells it: None of a touched chore, of one that waited, of one with a share at one away."""
        old = share_of.get(chore)
        if old is None or chore == deed[1] and deed[0] in ("put", "more", "fewer"):
            return None
        if deed[0] == "away" and old.get(deed[1], (0, 1))[0] > 0:
            return None
        return [old.get(hand, (0, 1)) for hand in book.doers_of(chore)]


class TestKeptUp(UpkeepCase):
    def assert_deeds_of(self, word, seed):
        rng = random.Random(seed)
        kept = 0
        for works, doers, many in some_chores(rng, 200, 9, 7):
            away = rng.sample(range(many), rng.randrange(many + 1) // 2)
            book = book_of(works, doers, many, away)
            deed = random_deed(rng, book, word)
            if deed is not None:
                kept += self.keep_up(rng, book, deed)
        self.assertGreater(kept, 3)

    def test_hire(self):
        self.assert_deeds_of("hire", 81)

    def test_put(self):
        self.assert_deeds_of("put", 82)

    def test_drop(self):
        self.assert_deeds_of("drop", 83)

    def test_more(self):
        self.assert_deeds_of("more", 84)

    def test_fewer(self):
        self.assert_deeds_of("fewer", 85)

    def test_away(self):
        self.assert_deeds_of("away", 86)

    def test_back(self):
        self.assert_deeds_of("back", 87)

    def test_forty_hands_and_forty_chores(self):
        rng = random.Random(88)
        for works, doers, many in [wide_chores(rng), wide_chores(rng, figures=1), wide_chores(rng, doers_in_all=90),
                                   steep_chores()]:
            for word in ["more", "fewer", "away", "back", "drop", "put"]:
                book = book_of(works, doers, many, away=rng.sample(range(many), 5))
                deed = random_deed(rng, book, word)
                if deed is not None:
                    self.keep_up(rng, book, deed)


class TestByHand(ChoresCase):
    def test_of_nothing(self):
        self.assertEqual(self.ask(kept_up, [], [], 0, [], []), [])
        self.assertEqual(self.ask(kept_up, [], [], 2, [], [(4, 1), (0, 1)]), [])

    def test_old_shares_that_would_not_be_dealt_anew(self):
        # Two chores between hands 0 and 1 may be dealt in many ways; a third is put at hand 2.
        works, doers = [4, 4, 3], [[0, 1], [0, 1], [2]]
        for share in (0, 1, Fraction(7, 3), 4):
            first = Fraction(share)
            parts = [(part.numerator, part.denominator) for part in (first, 4 - first)]
            old = [parts, parts[::-1], None]
            told = self.ask(kept_up, works, doers, 3, old, [(4, 1), (4, 1), (0, 1)])
            self.assertEqual(told, [parts, parts[::-1], [(3, 1)]])

    def test_a_chore_of_which_no_load_stayed_is_dealt_so_that_it_is_even(self):
        told = self.ask(kept_up, [4, 2], [[0, 1], [0]], 2, [[(2, 1), (2, 1)], None], [(2, 1), (2, 1)])
        self.assertEqual(told, [[(1, 1), (3, 1)], [(2, 1)]])

    def test_a_hand_falls_away_and_comes_back(self):
        told = self.ask(kept_up, [6, 5], [[1], [2]], 3, [None, [(5, 1)]], [(3, 1), (3, 1), (5, 1)])
        self.assertEqual(told, [[(6, 1)], [(5, 1)]])
        told = self.ask(kept_up, [6, 5], [[0, 1], [2]], 3, [[(0, 1), (6, 1)], [(5, 1)]], [(0, 1), (6, 1), (5, 1)])
        self.assertEqual(told, [[(3, 1), (3, 1)], [(5, 1)]])

    def test_told_lists_are_the_askers_own(self):
        works, doers, old, old_loads = [4, 3], [[0, 1], [2]], [[(2, 1), (2, 1)], None], [(2, 1), (2, 1), (0, 1)]
        told = kept_up(works, doers, 3, old, old_loads)
        told[0].clear()
        told[1].append((9, 1))
        self.assertEqual(old, [[(2, 1), (2, 1)], None])
        told = kept_up(works, doers, 3, old, old_loads)
        old[0].clear()
        works.clear()
        doers[0].clear()
        self.assertEqual(told, [[(2, 1), (2, 1)], [(3, 1)]])


if __name__ == "__main__":
    unittest.main()
