import itertools
import unittest

from tests.line import CHECK_CARDS, GREATEST, LEAST, TERM_CARDS, is_sound, last, state, told


def all_sets(terms):
    for size in range(terms + 1):
        for chosen in itertools.combinations(range(terms), size):
            yield list(chosen)


class Item(unittest.TestCase):
    def test_holes_by_the_terms(self):
        expected = [
            ([], []), ([0], [0, 1, 2, 3]), ([1], [0, 1, 4, 5]), ([2], [0, 2, 4, 6]), ([3], [1, 2, 4, 7]),
            ([4], [0, 1, 8, 9]), ([10], [0, 1, 2, 4, 8, 15]), ([0, 1], [2, 3, 4, 5]),
            ([0, 1, 2], [0, 3, 5, 6]), ([0, 10], [3, 4, 8, 15]), (list(range(11)), list(range(16)))]
        for terms, cards in expected:
            self.assertEqual(last(("file", 11, 1), ("item", 0, terms)), [len(cards)] + cards)

    def test_every_set_of_eleven_terms(self):
        sets = list(all_sets(11))
        for start in range(0, len(sets), 40):
            group = sets[start:start + 40]
            answers = told(("file", 11, 40), *[("item", place, terms) for place, terms in enumerate(group)])
            for terms, answer in zip(group, answers[1:]):
                cards = answer[1:]
                self.assertEqual(answer[0], len(cards))
                self.assertEqual(cards, sorted(set(cards)))
                self.assertEqual([c for c in cards if c not in CHECK_CARDS], [TERM_CARDS[t] for t in terms])
                self.assertTrue(is_sound(cards), (terms, cards))

    def test_the_item_card_and_the_holes_are_told_later(self):
        calls = [("file", 3, 3), ("item", 1, [0, 2])]
        self.assertEqual(last(*calls), [4, 1, 3, 4, 6])
        self.assertEqual(told(*calls, *[("itemcard", place) for place in range(3)])[2:], [[0], [1, 2, 0, 2], [0]])
        for card in (0, 1, 2, 3, 4, 5, 6, 8):
            self.assertEqual(last(*calls, ("check", card)), [1, 1] if card in (1, 3, 4, 6) else [0])

    def test_an_item_without_terms(self):
        calls = [("file", 2, 2), ("item", 1, [])]
        self.assertEqual(last(*calls), [0])
        self.assertEqual(last(*calls, ("itemcard", 1)), [1, 0])
        self.assertEqual(last(*calls, ("found", [])), [1, 1])
        self.assertEqual(last(*calls, ("item", 1, [0])), [-4])

    def test_holes_that_are_there_are_turned(self):
        calls = [("file", 2, 2), ("toggle", 3, 0), ("toggle", 5, 0), ("toggle", 0, 0), ("item", 0, [0])]
        self.assertEqual(last(*calls), [4, 0, 1, 2, 3])
        holes = {card: last(*calls, ("check", card)) for card in (0, 1, 2, 3, 4, 5, 8)}
        self.assertEqual(holes, {0: [0], 1: [1, 0], 2: [1, 0], 3: [0], 4: [0], 5: [1, 0], 8: [0]})
        self.assertEqual(last(*calls, ("itemcard", 0)), [1, 1, 0])
        self.assertEqual(last(*calls, ("found", [0])), [1, 0])
        self.assertEqual(last(*calls, ("light", [0])), [0])

    def test_least_and_greatest_place_and_term(self):
        calls = [("file", 11, 40), ("item", 39, [0, 10]), ("item", 0, [10])]
        self.assertEqual(told(*calls)[1:], [[4, 3, 4, 8, 15], [6, 0, 1, 2, 4, 8, 15]])
        self.assertEqual(last(*calls, ("term", 10)), [2, 0, 39])

    def test_wrong_places_and_lists_are_refused_and_change_nothing(self):
        calls = [("file", 3, 2), ("item", 0, [1])]
        before = state(calls, 3, 2)
        wrong = [(place, [0]) for place in (-1, 2, 40, LEAST, GREATEST)]
        wrong += [(1, terms) for terms in ([1, 0], [0, 0], [0, 1, 1], [0, 2, 1], [3], [-1], [0, 3], [-1, 0])]
        wrong += [(1, [LEAST]), (1, [GREATEST]), (1, [LEAST, 0]), (1, [0, 1, 2, GREATEST])]
        for place, terms in wrong:
            self.assertEqual(last(*calls, ("item", place, terms)), [-1], (place, terms))
            self.assertEqual(state(calls + [("item", place, terms)], 3, 2), before)

    def test_a_taken_place_is_refused_and_nothing_changes(self):
        calls = [("file", 3, 2), ("item", 0, [1])]
        self.assertEqual(last(*calls, ("item", 0, [1])), [-4])
        self.assertEqual(last(*calls, ("item", 0, [])), [-4])
        self.assertEqual(state(calls + [("item", 0, [0, 2])], 3, 2), state(calls, 3, 2))

    def test_any_lost_card_refuses_an_item(self):
        for card in (0, 1, 2, 4, 8, 3, 5, 6):
            calls = [("file", 3, 2), ("lose", card)]
            for terms in ([], [0], [0, 1, 2]):
                self.assertEqual(last(*calls, ("item", 1, terms)), [-5], (card, terms))
                self.assertEqual(state(calls + [("item", 1, terms)], 3, 2), state(calls, 3, 2))

    def test_the_order_of_the_refusals(self):
        calls = [("file", 3, 2), ("item", 0, [1]), ("lose", 5)]
        self.assertEqual(last(*calls, ("item", 0, [1, 1])), [-1])
        self.assertEqual(last(*calls, ("item", 2, [1])), [-1])
        self.assertEqual(last(*calls, ("item", 0, [1])), [-4])
        self.assertEqual(last(*calls, ("item", 1, [1])), [-5])
        self.assertEqual(last(*calls[:2], ("item", 0, [3])), [-1])
        self.assertEqual(last(("lose", 0), ("item", 0, [1])), [-1])
