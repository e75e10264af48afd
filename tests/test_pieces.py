import random
import unittest

from evenyoke.crowds import loads_by
from evenyoke.pieces import deal_pieces
from tests.helpers import SIXTY, ChoresCase, some_chores, steep_chores, wide_chores


class PiecesCase(ChoresCase):
    def deal(self, works, doers, many):
        pieces = self.ask(deal_pieces, works, doers, many)
        self.assertPieces(works, doers, many, pieces)
        return pieces


class TestPieces(PiecesCase):
    def test_no_chores(self):
        self.assertEqual(self.deal([], [], 0), [])
        self.assertEqual(self.deal([], [], 3), [])

    def test_one_chore(self):
        self.assertEqual(self.deal([7], [[0]], 1), [[7]])
        self.assertEqual(self.deal([7], [[2]], 4), [[7]])
        self.assertEqual(self.deal([6], [[1, 3]], 4), [[3, 3]])
        self.assertEqual(sorted(self.deal([7], [[1, 3]], 4)[0]), [3, 4])
        self.assertEqual(sorted(self.deal([1], [[0, 1, 2]], 3)[0]), [0, 0, 1])
        self.assertEqual(sorted(self.deal([8], [[0, 1, 2]], 3)[0]), [2, 3, 3])
        self.assertEqual(sorted(self.deal([SIXTY], [[0, 1]], 2)[0]), [SIXTY // 2, SIXTY // 2 + 1])

    def test_where_the_loads_are_whole(self):
        self.assertEqual(self.deal([6, 2, 2], [[0], [0, 1], [1, 2]], 3), [[6], [0, 2], [0, 2]])
        self.assertEqual(self.deal([4, 1, 1], [[0], [0, 1], [1, 2]], 4), [[4], [0, 1], [0, 1]])
        self.assertEqual(self.deal([1, 3, 2], [[0, 1], [0, 1], [2]], 3)[2], [2])

    def test_where_the_loads_are_not_whole(self):
        pieces = self.deal([6, 1, 2], [[0], [0, 1], [1, 2]], 3)
        self.assertEqual(pieces[:2], [[6], [0, 1]])
        self.assertIn(pieces[2], ([0, 2], [1, 1]))

    def test_a_hand_is_not_left_below_its_load_rounded_down(self):
        # Filled up to the load rounded up at once, the first hands could leave too little for the last.
        for many in range(2, 12):
            for work in range(1, 3 * many):
                self.deal([work], [list(range(many))], many)
                self.deal([work, 1, 1], [list(range(many)), [0, 1], [0, many - 1]], many)

    def test_many(self):
        for works, doers, many in some_chores(random.Random(71), 400, 9, 8):
            self.deal(works, doers, many)

    def test_many_with_whole_loads(self):
        for works, doers, many in some_chores(random.Random(72), 200):
            whole = [work * 60 for work in works]
            self.assertTrue(all(load[1] == 1 for load in loads_by(whole, doers, many)))
            self.deal(whole, doers, many)

    def test_forty_chores_and_forty_hands(self):
        rng = random.Random(73)
        for turn in range(5):
            self.deal(*wide_chores(rng))
            self.deal(*wide_chores(rng, figures=1))
        self.deal(*steep_chores())
        self.deal(*wide_chores(rng, doers_in_all=1600))
        self.deal(*wide_chores(rng, many_chores=50, many_hands=45, doers_in_all=700, figures=90))


class TestOwn(PiecesCase):
    def test_told_lists_are_the_askers_own(self):
        hands = [0, 1]
        works, doers, many = [5, 5, 3], [hands, hands, [2]], 4
        pieces = deal_pieces(works, doers, many)
        kept = deal_pieces(works, doers, many)
        pieces[0].clear()
        self.assertEqual([len(row) for row in pieces], [0, 2, 1])
        pieces[2][0] = 99
        pieces.pop()
        self.assertEqual(hands, [0, 1])
        self.assertPieces(works, doers, many, deal_pieces(works, doers, many))
        self.assertPieces(works, doers, many, kept)

    def test_lists_changed_behind_change_no_answer(self):
        works, doers = [6, 2, 2], [[0], [0, 1], [1, 2]]
        pieces = deal_pieces(works, doers, 3)
        works.clear()
        doers[1].reverse()
        doers.pop()
        self.assertEqual(pieces, [[6], [0, 2], [0, 2]])


if __name__ == "__main__":
    unittest.main()
