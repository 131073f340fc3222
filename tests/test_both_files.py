import unittest

from tests.line import CHECK_CARDS, GREATEST, LEAST, TERM_CARDS, last, state, told

FILE = [("file", 3, 4), ("item", 0, [0, 1]), ("item", 1, [1, 2]), ("item", 3, [])]


class Unlike(unittest.TestCase):
    def test_two_files_that_tell_the_same(self):
        self.assertEqual(last(("unlike",)), [0])
        self.assertEqual(last(*FILE, ("unlike",)), [0])

    def test_a_hole_too_many_and_one_too_few(self):
        self.assertEqual(last(*FILE, ("toggle", 6, 0), ("unlike",)), [1, 2, 0])
        self.assertEqual(last(*FILE, ("toggle", 3, 0), ("unlike",)), [1, 0, 0])
        self.assertEqual(last(*FILE, ("toggle", 5, 3), ("unlike",)), [1, 1, 3])

    def test_a_hole_at_a_place_without_an_item(self):
        self.assertEqual(last(*FILE, ("toggle", 5, 2), ("unlike",)), [1, 1, 2])
        self.assertEqual(last(("toggle", 3, 0), ("unlike",)), [1, 0, 0])

    def test_pairs_by_terms_then_places(self):
        turned = [("toggle", card, place) for card, place in [(6, 3), (3, 2), (5, 0), (3, 0), (6, 2), (5, 3), (3, 3)]]
        pairs = [0, 0, 0, 2, 0, 3, 1, 0, 1, 3, 2, 2, 2, 3]
        self.assertEqual(last(*FILE, *turned, ("unlike",)), [7] + pairs)
        self.assertEqual(last(*FILE, *reversed(turned), ("unlike",)), [7] + pairs)

    def test_check_cards_do_not_matter(self):
        turned = [("toggle", card, place) for card in CHECK_CARDS for place in range(4)]
        self.assertEqual(last(*FILE, *turned, ("unlike",)), [0])

    def test_lost_cards_are_left_out(self):
        turned = FILE + [("toggle", card, place) for card in (3, 5, 6) for place in (1, 2)]
        self.assertEqual(last(*turned, ("unlike",)), [6, 0, 1, 0, 2, 1, 1, 1, 2, 2, 1, 2, 2])
        self.assertEqual(last(*turned, ("lose", 5), ("unlike",)), [4, 0, 1, 0, 2, 2, 1, 2, 2])
        self.assertEqual(last(*turned, ("lose", 3), ("lose", 6), ("unlike",)), [2, 1, 1, 1, 2])
        self.assertEqual(last(*turned, ("lose", 3), ("lose", 6), ("lose", 5), ("unlike",)), [0])
        self.assertEqual(last(*FILE, ("lose", 5), ("unlike",)), [0])
        self.assertEqual(last(*turned, ("lose", 8), ("unlike",))[0], 6)

    def test_cards_that_came_back_without_holes(self):
        calls = FILE + [("lose", 0), ("lose", 3), ("lose", 5), ("lose", 6), ("mend",)]
        self.assertEqual(last(*calls, ("unlike",)), [4, 0, 0, 1, 0, 1, 1, 2, 1])

    def test_an_item_on_wrong_holes(self):
        calls = [("file", 3, 1), ("toggle", 3, 0), ("toggle", 6, 0), ("item", 0, [0, 1])]
        self.assertEqual(last(*calls, ("unlike",)), [2, 0, 0, 2, 0])

    def test_every_hole_of_eleven_terms_and_forty_places(self):
        for start in (0, 1):
            calls = [("file", 11, 40)] + [("item", place, list(range(11))) for place in range(start, 40, 2)]
            lost = calls + [("lose", 0), ("lose", 3), ("lose", 5), ("lose", 6), ("mend",)]
            pairs = [(term, place) for term in range(3) for place in range(start, 40, 2)]
            self.assertEqual(last(*lost, ("unlike",)), [len(pairs)] + [number for pair in pairs for number in pair])
        calls = [("file", 8, 40)] + [("toggle", card, place) for card in TERM_CARDS[:8] for place in range(40)]
        pairs = [number for term in range(8) for place in range(40) for number in (term, place)]
        self.assertEqual(last(*calls, ("unlike",)), [320] + pairs)


class Anew(unittest.TestCase):
    def test_the_places_whose_item_has_the_term(self):
        self.assertEqual(told(*FILE, ("anew", 0), ("anew", 1), ("anew", 2))[4:], [[1, 0], [2, 0, 1], [1, 1]])
        self.assertEqual(last(("anew", 0)), [0])

    def test_it_goes_by_the_item_cards_alone(self):
        turned = FILE + [("toggle", 3, 0), ("toggle", 3, 1), ("toggle", 3, 2), ("toggle", 3, 3)]
        self.assertEqual(last(*turned, ("anew", 0)), [1, 0])
        self.assertEqual(last(*FILE, ("lose", 5), ("anew", 1)), [2, 0, 1])
        self.assertEqual(last(*FILE, ("lose", 3), ("lose", 5), ("lose", 6), ("lose", 0), ("anew", 0)), [1, 0])

    def test_after_cards_came_back_without_holes(self):
        calls = FILE + [("lose", 0), ("lose", 3), ("lose", 5), ("lose", 6), ("mend",)]
        self.assertEqual(told(*calls, ("anew", 1), ("term", 1))[-2:], [[2, 0, 1], [0]])

    def test_least_and_greatest_term_and_place(self):
        calls = [("file", 11, 40), ("item", 39, [0, 10]), ("item", 0, [10])]
        self.assertEqual(told(*calls, ("anew", 10), ("anew", 0), ("anew", 5))[3:], [[2, 0, 39], [1, 39], [0]])

    def test_numbers_that_are_no_term(self):
        for term in (-1, 3, 11, LEAST, GREATEST):
            self.assertEqual(last(*FILE, ("anew", term)), [-1])
        self.assertEqual(last(("file", 11, 1), ("anew", 11)), [-1])
        self.assertEqual(last(*FILE, ("lose", 3), ("anew", -1)), [-1])


class Counts(unittest.TestCase):
    def test_terms_places_items_and_lost_cards(self):
        self.assertEqual(last(("counts",)), [1, 1, 0, 0])
        self.assertEqual(last(("file", 11, 40), ("counts",)), [11, 40, 0, 0])
        self.assertEqual(last(*FILE, ("counts",)), [3, 4, 3, 0])
        self.assertEqual(last(*FILE, ("item", 2, [0]), ("counts",)), [3, 4, 4, 0])

    def test_items_are_counted_by_the_item_cards(self):
        self.assertEqual(last(*FILE, ("toggle", 3, 2), ("toggle", 3, 0), ("counts",)), [3, 4, 3, 0])
        full = [("file", 2, 40)] + [("item", place, []) for place in range(40)]
        self.assertEqual(last(*full, ("counts",)), [2, 40, 40, 0])

    def test_lost_cards_and_mending(self):
        calls = list(FILE)
        for lost, card in enumerate((8, 3, 0, 6)):
            calls.append(("lose", card))
            self.assertEqual(last(*calls, ("counts",)), [3, 4, 3, lost + 1])
        self.assertEqual(last(*calls, ("lose", 5), ("counts",)), [3, 4, 3, 4])
        self.assertEqual(last(*calls, ("mend",), ("counts",)), [3, 4, 3, 0])

    def test_file_and_clear(self):
        calls = FILE + [("lose", 3)]
        self.assertEqual(last(*calls, ("file", 2, 9), ("counts",)), [2, 9, 0, 0])
        self.assertEqual(last(*calls, ("clear",), ("counts",)), [1, 1, 0, 0])

    def test_refused_calls_count_nothing(self):
        calls = FILE + [("item", 0, [0]), ("item", 4, []), ("item", 2, [1, 1]), ("file", 12, 1), ("lose", 7)]
        self.assertEqual(told(*calls, ("counts",))[4:], [[-4], [-1], [-1], [-1], [-1], [3, 4, 3, 0]])


class Clear(unittest.TestCase):
    def test_all_is_as_before_the_first_call(self):
        before = state([], 1, 1)
        used = FILE + [("toggle", 0, 0), ("toggle", 3, 2), ("lose", 3), ("lose", 8), ("lose", 1), ("lose", 0)]
        for calls in ([], [("item", 0, [0])], [("toggle", 3, 0)], [("lose", 3)], FILE, used, [("file", 11, 40)]):
            self.assertEqual(last(*calls, ("clear",)), [0])
            self.assertEqual(state(calls + [("clear",)], 1, 1), before)

    def test_one_term_and_one_place(self):
        calls = FILE + [("lose", 3), ("clear",)]
        asked = [("term", 0), ("term", 1), ("itemcard", 0), ("itemcard", 1), ("check", 5), ("light", []), ("anew", 1)]
        self.assertEqual(told(*calls, *asked)[len(calls):], [[0], [-1], [0], [-1], [-1], [1, 0], [-1]])
        self.assertEqual(told(*calls, ("item", 0, [0]), ("light", [0]))[-2:], [[4, 0, 1, 2, 3], [1, 0]])

    def test_clear_twice_and_file_then(self):
        calls = FILE + [("clear",), ("clear",)]
        self.assertEqual(told(*calls)[-2:], [[0], [0]])
        self.assertEqual(state(calls + FILE, 3, 4), state(FILE, 3, 4))
