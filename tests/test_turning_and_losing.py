import itertools
import unittest

from tests.line import GREATEST, LEAST, cards_of, last, state, told

FILE = [("file", 3, 4), ("item", 0, [0, 1]), ("item", 1, [1, 2])]


class Toggle(unittest.TestCase):
    def test_there_and_back_for_every_card(self):
        for card in cards_of(11):
            calls = [("file", 11, 40), ("toggle", card, 39), ("check", card), ("toggle", card, 39), ("check", card)]
            self.assertEqual(told(*calls), [[0], [1], [1, 39], [0], [0]])

    def test_only_that_hole_is_turned(self):
        calls = FILE + [("toggle", 5, 0)]
        self.assertEqual(last(*calls), [0])
        self.assertEqual(last(*calls, ("term", 1)), [1, 1])
        for card in (0, 1, 2, 3, 4, 6, 8):
            self.assertEqual(last(*calls, ("check", card)), last(*FILE, ("check", card)))
        self.assertEqual(state(calls + [("toggle", 5, 0)], 3, 4), state(FILE, 3, 4))

    def test_the_item_card_stays(self):
        self.assertEqual(last(*FILE, ("toggle", 3, 0), ("itemcard", 0)), [1, 2, 0, 1])
        self.assertEqual(last(*FILE, ("toggle", 3, 2), ("itemcard", 2)), [0])

    def test_numbers_that_are_no_card_or_no_place(self):
        wrong = [(card, 0) for card in (-1, 7, 9, 15, 16, LEAST, GREATEST)]
        wrong += [(3, place) for place in (-1, 4, 40, LEAST, GREATEST)] + [(7, 4), (LEAST, GREATEST)]
        for card, place in wrong:
            self.assertEqual(last(*FILE, ("toggle", card, place)), [-1], (card, place))
            self.assertEqual(state(FILE + [("toggle", card, place)], 3, 4), state(FILE, 3, 4))

    def test_a_lost_card(self):
        calls = FILE + [("lose", 3)]
        self.assertEqual(last(*calls, ("toggle", 3, 0)), [-5])
        self.assertEqual(state(calls + [("toggle", 3, 0)], 3, 4), state(calls, 3, 4))
        self.assertEqual(last(*calls, ("toggle", 5, 2)), [1])
        self.assertEqual(last(*calls, ("toggle", 3, 4)), [-1])


class Lose(unittest.TestCase):
    def test_up_to_four_cards_then_the_fifth(self):
        calls = FILE + [("lose", 8), ("lose", 3), ("lose", 0), ("lose", 6)]
        self.assertEqual(told(*calls)[3:], [[1], [2], [3], [4]])
        self.assertEqual(last(*calls, ("lose", 5)), [-3])
        self.assertEqual(state(calls + [("lose", 5)], 3, 4), state(calls, 3, 4))
        self.assertEqual(last(*calls, ("lose", 5), ("term", 1)), [2, 0, 1])

    def test_a_card_that_is_lost_already(self):
        calls = FILE + [("lose", 3)]
        self.assertEqual(last(*calls, ("lose", 3)), [-5])
        self.assertEqual(last(*calls, ("lose", 3), ("lose", 5)), [2])
        self.assertEqual(state(calls + [("lose", 3)], 3, 4), state(calls, 3, 4))

    def test_the_order_of_the_refusals(self):
        calls = FILE + [("lose", 8), ("lose", 3), ("lose", 0), ("lose", 6)]
        self.assertEqual(last(*calls, ("lose", 3)), [-5])
        self.assertEqual(last(*calls, ("lose", 7)), [-1])
        self.assertEqual(last(*calls, ("lose", -1)), [-1])
        self.assertEqual(last(*calls, ("lose", 1)), [-3])

    def test_every_card_can_be_lost(self):
        for card in cards_of(11):
            calls = [("file", 11, 2), ("lose", card)]
            self.assertEqual(last(*calls), [1])
            for other in cards_of(11):
                self.assertEqual(last(*calls, ("check", other)), [-5] if other == card else [0])

    def test_numbers_that_are_no_card(self):
        for card in (-1, 7, 9, 10, 15, 16, LEAST, GREATEST):
            self.assertEqual(last(*FILE, ("lose", card)), [-1], card)
            self.assertEqual(state(FILE + [("lose", card)], 3, 4), state(FILE, 3, 4))

    def test_its_holes_are_gone_whatever_they_were(self):
        # What the lost card had is no part of reading a place.
        for holes in itertools.product([0, 1], repeat=4):
            calls = [("file", 3, 4)] + [("toggle", 5, place) for place in range(4) if holes[place]]
            self.assertEqual(state(calls + [("lose", 5)], 3, 4), state([("file", 3, 4), ("lose", 5)], 3, 4))

    def test_file_anew_finds_the_lost_cards_without_holes(self):
        calls = [("file", 3, 2), ("toggle", 3, 0), ("lose", 3), ("file", 3, 2), ("term", 0), ("light", [0])]
        self.assertEqual(told(*calls)[4:], [[0], [0]])
