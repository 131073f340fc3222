import unittest

from tests.line import GREATEST, LEAST, TERM_CARDS, last, state, told

FILE = [("file", 3, 4), ("item", 0, [0, 1]), ("item", 1, [1, 2]), ("item", 3, [0, 1, 2])]
NO_LISTS = [[1, 0], [0, 0], [0, 1, 1], [0, 2, 1], [3], [0, 3], [-1], [-1, 0], [LEAST], [GREATEST], [LEAST, GREATEST]]


class Light(unittest.TestCase):
    def test_the_places_that_shine(self):
        asked = [([0], [0, 3]), ([1], [0, 1, 3]), ([2], [1, 3]), ([0, 1], [0, 3]), ([0, 2], [3]), ([0, 1, 2], [3])]
        for terms, places in asked:
            self.assertEqual(last(*FILE, ("light", terms)), [len(places)] + places)

    def test_all_places_shine_for_no_terms(self):
        self.assertEqual(last(*FILE, ("light", [])), [4, 0, 1, 2, 3])
        self.assertEqual(last(("light", [])), [1, 0])
        self.assertEqual(last(("file", 11, 40), ("light", [])), [40] + list(range(40)))

    def test_it_goes_by_the_holes_and_not_by_the_item_cards(self):
        self.assertEqual(last(*FILE, ("toggle", 3, 2), ("light", [0])), [3, 0, 2, 3])
        self.assertEqual(last(*FILE, ("toggle", 3, 0), ("light", [0])), [1, 3])

    def test_only_the_terms_own_lost_cards_refuse(self):
        lost = FILE + [("lose", 5)]
        self.assertEqual(last(*lost, ("light", [1])), [-5])
        self.assertEqual(last(*lost, ("light", [0, 1])), [-5])
        self.assertEqual(last(*lost, ("light", [1, 2])), [-5])
        self.assertEqual(last(*lost, ("light", [0, 2])), [1, 3])
        self.assertEqual(last(*lost, ("light", [])), [4, 0, 1, 2, 3])
        self.assertEqual(last(*FILE, ("lose", 0), ("lose", 1), ("light", [0, 1])), [2, 0, 3])

    def test_lists_that_are_not_as_told(self):
        for terms in NO_LISTS:
            self.assertEqual(last(*FILE, ("light", terms)), [-1], terms)
            self.assertEqual(last(*FILE, ("lose", 3), ("light", terms)), [-1], terms)

    def test_eleven_terms(self):
        calls = [("file", 11, 40), ("item", 39, list(range(11)))]
        self.assertEqual(last(*calls, ("light", list(range(11)))), [1, 39])


class Found(unittest.TestCase):
    def test_the_places_whose_item_has_all_the_terms(self):
        asked = [([0], [0, 3]), ([1], [0, 1, 3]), ([2], [1, 3]), ([0, 2], [3]), ([0, 1, 2], [3])]
        for terms, places in asked:
            self.assertEqual(last(*FILE, ("found", terms)), [len(places)] + places)

    def test_all_items_for_no_terms(self):
        self.assertEqual(last(*FILE, ("found", [])), [3, 0, 1, 3])
        self.assertEqual(last(*FILE, ("item", 2, []), ("found", [])), [4, 0, 1, 2, 3])
        self.assertEqual(last(("found", [])), [0])

    def test_it_goes_by_the_item_cards_and_not_by_the_holes(self):
        turned = FILE + [("toggle", 3, 2), ("toggle", 3, 0)]
        self.assertEqual(last(*turned, ("found", [0])), [2, 0, 3])

    def test_lost_cards_do_not_refuse(self):
        lost = FILE + [("lose", 3), ("lose", 5), ("lose", 6), ("lose", 0)]
        self.assertEqual(last(*lost, ("found", [0, 1, 2])), [1, 3])
        self.assertEqual(last(*lost, ("found", [0])), [2, 0, 3])

    def test_lists_that_are_not_as_told(self):
        for terms in NO_LISTS:
            self.assertEqual(last(*FILE, ("found", terms)), [-1], terms)


class Term(unittest.TestCase):
    def test_the_holes_of_its_card(self):
        self.assertEqual(told(*FILE, ("term", 0), ("term", 1), ("term", 2))[4:], [[2, 0, 3], [3, 0, 1, 3], [2, 1, 3]])

    def test_each_term_has_its_own_card(self):
        for term, card in enumerate(TERM_CARDS):
            calls = [("file", 11, 40), ("toggle", card, 39), ("toggle", card, 0)]
            for other in range(11):
                self.assertEqual(last(*calls, ("term", other)), [2, 0, 39] if other == term else [0])

    def test_a_lost_card(self):
        self.assertEqual(last(*FILE, ("lose", 5), ("term", 1)), [-5])
        self.assertEqual(last(*FILE, ("lose", 5), ("term", 0)), [2, 0, 3])

    def test_numbers_that_are_no_term(self):
        for term in (-1, 3, 11, LEAST, GREATEST):
            self.assertEqual(last(*FILE, ("term", term)), [-1])
        self.assertEqual(last(("file", 11, 1), ("term", 11)), [-1])


class ItemCard(unittest.TestCase):
    def test_its_terms_as_told(self):
        cards = told(*FILE, *[("itemcard", place) for place in range(4)])[4:]
        self.assertEqual(cards, [[1, 2, 0, 1], [1, 2, 1, 2], [0], [1, 3, 0, 1, 2]])

    def test_holes_and_lost_cards_do_not_matter(self):
        calls = FILE + [("toggle", 3, 2), ("toggle", 3, 0), ("lose", 3), ("lose", 5), ("lose", 6), ("lose", 8)]
        cards = told(*calls, *[("itemcard", place) for place in range(4)])[len(calls):]
        self.assertEqual(cards, [[1, 2, 0, 1], [1, 2, 1, 2], [0], [1, 3, 0, 1, 2]])

    def test_an_item_without_terms_and_no_item(self):
        self.assertEqual(last(*FILE, ("item", 2, []), ("itemcard", 2)), [1, 0])
        self.assertEqual(last(*FILE, ("itemcard", 2)), [0])

    def test_eleven_terms(self):
        calls = [("file", 11, 40), ("item", 39, list(range(11))), ("itemcard", 39)]
        self.assertEqual(last(*calls), [1, 11] + list(range(11)))

    def test_numbers_that_are_no_place(self):
        for place in (-1, 4, 40, LEAST, GREATEST):
            self.assertEqual(last(*FILE, ("itemcard", place)), [-1])
        self.assertEqual(last(("file", 11, 40), ("itemcard", 40)), [-1])


class Check(unittest.TestCase):
    def test_the_holes_of_every_card(self):
        # The items' holes: 2 3 4 5, then 1 2 5 6, then 0 3 5 6.
        expected = {0: [3], 1: [1], 2: [0, 1], 4: [0], 8: [], 3: [0, 3], 5: [0, 1, 3], 6: [1, 3]}
        for card, places in expected.items():
            self.assertEqual(last(*FILE, ("check", card)), [len(places)] + places, card)

    def test_a_lost_card(self):
        for card in (0, 1, 2, 4, 8, 3, 5, 6):
            self.assertEqual(last(*FILE, ("lose", card), ("check", card)), [-5])

    def test_numbers_that_are_no_card(self):
        for card in (-1, 7, 9, 10, 15, 16, 19, LEAST, GREATEST):
            self.assertEqual(last(*FILE, ("check", card)), [-1], card)


class NothingChanges(unittest.TestCase):
    def test_asking_changes_nothing(self):
        calls = FILE + [("toggle", 3, 2), ("toggle", 0, 1), ("toggle", 1, 1), ("lose", 5)]
        before = state(calls, 3, 4)
        asked = [("light", [0]), ("light", [1]), ("light", [3]), ("found", [0]), ("found", [0, 0]), ("term", 0)]
        asked += [("term", 1), ("itemcard", 0), ("itemcard", 9), ("check", 0), ("check", 5), ("check", 7)]
        asked += [("unread",), ("wrong",), ("unlike",), ("anew", 0), ("anew", 1), ("anew", 3), ("common", [0, 1])]
        asked += [("common", [4]), ("closed", [0]), ("closed", [3]), ("alone", 0), ("alone", 4), ("concepts",)]
        asked += [("further", []), ("further", [1, 0]), ("counts",)]
        for call in asked:
            self.assertEqual(state(calls + [call], 3, 4), before, call)
        self.assertEqual(state(calls + asked, 3, 4), before)

    def test_asking_changes_nothing_with_no_card_lost(self):
        calls = FILE + [("toggle", 3, 2), ("toggle", 0, 1), ("toggle", 1, 1)]
        before = state(calls, 3, 4)
        asked = [("light", [0, 1]), ("found", [0]), ("term", 0), ("itemcard", 0), ("check", 0), ("unread",), ("wrong",)]
        asked += [("unlike",), ("anew", 0), ("common", [0, 1]), ("common", []), ("closed", [0]), ("alone", 0)]
        asked += [("concepts",), ("further", [0]), ("further", []), ("counts",)]
        for call in asked:
            self.assertEqual(state(calls + [call], 3, 4), before, call)
            self.assertEqual(told(*calls, call, call)[-2], last(*calls, call), call)
            self.assertEqual(told(*calls, call, call)[-1], last(*calls, call), call)
        self.assertEqual(state(calls + asked, 3, 4), before)
