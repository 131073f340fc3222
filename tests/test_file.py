import unittest

from tests.line import GREATEST, LEAST, cards_of, last, state, told

USED = [
    ("file", 3, 5), ("item", 2, [0, 1]), ("toggle", 3, 0), ("toggle", 0, 4), ("item", 4, []),
    ("lose", 2), ("lose", 5), ("lose", 8), ("lose", 0)]


class File(unittest.TestCase):
    def test_before_the_first_call_there_are_one_term_and_one_place(self):
        self.assertEqual(state([], 1, 1), state([("file", 1, 1)], 1, 1))
        self.assertEqual(told(("term", 0), ("term", 1)), [[0], [-1]])
        self.assertEqual(told(("itemcard", 0), ("itemcard", 1)), [[0], [-1]])
        self.assertEqual(told(("light", []), ("found", []), ("unread",), ("wrong",)), [[1, 0], [0], [0], [0]])
        self.assertEqual(told(("item", 0, [0]), ("light", [0])), [[4, 0, 1, 2, 3], [1, 0]])
        self.assertEqual(last(("lose", 3)), [1])

    def test_terms_from_1_to_11(self):
        for terms in range(1, 12):
            answers = told(("file", terms, 1), ("term", 0), ("term", terms - 1), ("term", terms))
            self.assertEqual(answers, [[0], [0], [0], [-1]])

    def test_places_from_1_to_40(self):
        for places in range(1, 41):
            answers = told(("file", 1, places), ("itemcard", places - 1), ("itemcard", places), ("light", []))
            self.assertEqual(answers, [[0], [0], [-1], [places] + list(range(places))])

    def test_the_cards_are_those_of_the_terms_and_five_more(self):
        for terms in range(1, 12):
            for card in list(range(-2, 20)) + [LEAST, GREATEST, 3 + 2 ** 32]:
                expected = [0] if card in cards_of(terms) else [-1]
                self.assertEqual(last(("file", terms, 2), ("check", card)), expected, (terms, card))

    def test_numbers_out_of_range_are_refused_and_change_nothing(self):
        wrong = [(0, 1), (1, 0), (12, 1), (1, 41), (-1, 1), (1, -1), (0, 0), (12, 41), (11, 41), (12, 40)]
        wrong += [(LEAST, 1), (1, LEAST), (GREATEST, 1), (1, GREATEST), (GREATEST, LEAST)]
        before = state(USED, 3, 5)
        for terms, places in wrong:
            self.assertEqual(last(*USED, ("file", terms, places)), [-1], (terms, places))
            self.assertEqual(state(USED + [("file", terms, places)], 3, 5), before)

    def test_file_anew_leaves_no_item_no_hole_and_no_lost_card(self):
        for terms, places in [(3, 5), (1, 1), (11, 40), (2, 7)]:
            anew = USED + [("file", terms, places)]
            self.assertEqual(last(*anew), [0])
            self.assertEqual(state(anew, terms, places), state([("file", terms, places)], terms, places))
            self.assertEqual(last(*anew, ("lose", 2)), [1])

    def test_file_anew_takes_the_new_sizes(self):
        calls = [("file", 11, 40), ("file", 2, 3), ("term", 1), ("term", 2), ("check", 5), ("check", 6)]
        self.assertEqual(told(*calls)[2:], [[0], [-1], [0], [-1]])
        self.assertEqual(last(("file", 11, 40), ("file", 2, 3), ("light", [])), [3, 0, 1, 2])
