import itertools
import time
import unittest

from tests.line import CHECK_CARDS, GREATEST, LEAST, TERM_CARDS, last, state, told

# The terms' cards: 0 has holes at 0 and 3, 1 at 0, 1 and 3, 2 at 1 and 3.
FILE = [("file", 3, 4), ("item", 0, [0, 1]), ("item", 1, [1, 2]), ("item", 3, [0, 1, 2])]
NO_TERMS = [[1, 0], [0, 0], [0, 1, 1], [0, 2, 1], [3], [0, 3], [-1], [-1, 0], [LEAST], [GREATEST], [LEAST, GREATEST]]
NO_PLACES = [[1, 0], [0, 0], [0, 3, 3], [0, 3, 2], [4], [0, 4], [40], [-1], [-1, 0], [LEAST], [GREATEST]]
# Calls that ask the cards of all terms.
OF_ALL = [
    ("common", []), ("common", [0, 1]), ("closed", []), ("closed", [0]), ("alone", 0), ("concepts",),
    ("further", []), ("further", [1])]


def with_holes(term_count, place_count, rows):
    """A file whose cards have holes at these places, one row of places a term."""
    calls = [("file", term_count, place_count)]
    for term, places in enumerate(rows):
        calls.extend(("toggle", TERM_CARDS[term], place) for place in places)
    return calls


def all_but_one(term_count, place_count):
    """Items of all terms but one each, the other places without any: each set of terms shines otherwise."""
    calls = [("file", term_count, place_count)]
    for place in range(place_count):
        terms = [term for term in range(term_count) if term != place] if place < term_count else []
        calls.append(("item", place, terms))
    return calls


def subsets(count):
    return [list(chosen) for size in range(count + 1) for chosen in itertools.combinations(range(count), size)]


class Common(unittest.TestCase):
    def test_terms_common_to_places(self):
        asked = [([0], [0, 1]), ([1], [1, 2]), ([3], [0, 1, 2]), ([2], []), ([0, 1], [1]), ([0, 3], [0, 1])]
        asked += [([1, 3], [1, 2]), ([0, 1, 3], [1]), ([0, 2], []), ([0, 1, 2, 3], [])]
        for places, terms in asked:
            self.assertEqual(last(*FILE, ("common", places)), [len(terms)] + terms, places)

    def test_all_terms_are_common_to_no_places(self):
        self.assertEqual(last(("common", [])), [1, 0])
        self.assertEqual(last(*FILE, ("common", [])), [3, 0, 1, 2])
        self.assertEqual(last(("file", 11, 40), ("common", [])), [11] + list(range(11)))

    def test_common_to_all_places(self):
        calls = with_holes(11, 40, [[], range(40)] + [[]] * 8 + [range(40)])
        self.assertEqual(last(*calls, ("common", list(range(40)))), [2, 1, 10])
        self.assertEqual(last(("file", 11, 40), ("common", list(range(40)))), [0])

    def test_it_goes_by_the_holes_and_not_by_the_item_cards(self):
        self.assertEqual(last(*FILE, ("toggle", 6, 0), ("common", [0])), [3, 0, 1, 2])
        self.assertEqual(last(*FILE, ("toggle", 3, 0), ("common", [0])), [1, 1])
        self.assertEqual(last(*FILE, ("toggle", 5, 2), ("common", [2])), [1, 1])
        self.assertEqual(last(*FILE, ("toggle", 0, 2), ("common", [2])), [0])

    def test_lists_that_are_not_as_told(self):
        for places in NO_PLACES:
            self.assertEqual(last(*FILE, ("common", places)), [-1], places)
            self.assertEqual(last(*FILE, ("lose", 3), ("common", places)), [-1], places)
        self.assertEqual(last(("file", 11, 40), ("common", [0] + list(range(39)))), [-1])

    def test_a_place_is_no_term(self):
        self.assertEqual(last(("file", 2, 5), ("common", [4])), [0])
        self.assertEqual(last(("file", 5, 2), ("common", [4])), [-1])


class Closed(unittest.TestCase):
    def test_terms_that_all_that_shine_have(self):
        asked = [([0], [0, 1]), ([1], [1]), ([2], [1, 2]), ([0, 1], [0, 1]), ([0, 2], [0, 1, 2]), ([1, 2], [1, 2])]
        for terms, closed in asked:
            self.assertEqual(last(*FILE, ("closed", terms)), [len(closed)] + closed, terms)

    def test_of_no_terms(self):
        self.assertEqual(last(*FILE, ("closed", [])), [0])
        self.assertEqual(last(*FILE, ("item", 2, [1]), ("closed", [])), [1, 1])
        self.assertEqual(last(("closed", [])), [0])
        self.assertEqual(last(("item", 0, [0]), ("closed", [])), [1, 0])

    def test_all_terms_where_no_place_shines(self):
        self.assertEqual(last(("closed", [0])), [1, 0])
        self.assertEqual(last(("file", 11, 40), ("closed", [5])), [11] + list(range(11)))
        calls = [("file", 4, 2), ("item", 0, [0, 1]), ("item", 1, [2])]
        self.assertEqual(last(*calls, ("closed", [0, 2])), [4, 0, 1, 2, 3])
        self.assertEqual(last(*calls, ("closed", [3])), [4, 0, 1, 2, 3])

    def test_of_all_terms(self):
        self.assertEqual(last(*FILE, ("closed", [0, 1, 2])), [3, 0, 1, 2])
        self.assertEqual(last(("file", 11, 40), ("closed", list(range(11)))), [11] + list(range(11)))

    def test_it_goes_by_the_holes_and_not_by_the_item_cards(self):
        self.assertEqual(last(*FILE, ("toggle", 5, 0), ("closed", [0])), [1, 0])
        self.assertEqual(last(*FILE, ("toggle", 3, 2), ("closed", [0])), [1, 0])

    def test_lists_that_are_not_as_told(self):
        for terms in NO_TERMS:
            self.assertEqual(last(*FILE, ("closed", terms)), [-1], terms)
            self.assertEqual(last(*FILE, ("lose", 5), ("closed", terms)), [-1], terms)


class Alone(unittest.TestCase):
    def test_the_fewest_terms(self):
        calls = [("file", 4, 5), ("item", 0, [0, 1]), ("item", 1, [1, 2]), ("item", 2, [0, 2, 3]), ("item", 3, [0, 1, 2])]
        asked = [(0, [0]), (1, [0]), (2, [1, 1, 3]), (3, [1, 3, 0, 1, 2]), (4, [0])]
        for place, answer in asked:
            self.assertEqual(last(*calls, ("alone", place)), answer, place)

    def test_the_empty_set_where_there_is_one_place(self):
        self.assertEqual(last(("alone", 0)), [1, 0])
        self.assertEqual(last(("item", 0, [0]), ("alone", 0)), [1, 0])
        self.assertEqual(last(("file", 11, 1), ("alone", 0)), [1, 0])
        self.assertEqual(last(("file", 11, 2), ("alone", 0)), [0])

    def test_of_several_sets_the_first(self):
        # 2 and 4, each by itself, let place 0 alone shine, and so do 0 1 and other sets of two.
        rows = [[0, 1], [0, 2], [0], [0, 1, 2], [0]]
        self.assertEqual(last(*with_holes(5, 3, rows), ("alone", 0)), [1, 1, 2])
        # 0 3 and 2 3 let place 0 alone shine; 0 1, 0 2, 1 2 and 1 3 don't.
        rows = [[0, 1], [0, 1, 2], [0, 1, 3], [0, 2]]
        self.assertEqual(last(*with_holes(4, 4, rows), ("alone", 0)), [1, 2, 0, 3])
        # 1 2, 1 3 and 2 3 do.
        rows = [[0, 1, 2, 3], [0, 1], [0, 2], [0, 3]]
        self.assertEqual(last(*with_holes(4, 4, rows), ("alone", 0)), [1, 2, 1, 2])

    def test_fewer_terms_come_before_lesser_ones(self):
        # 0 1 2 lets place 0 alone shine, but 2 4 and 3 4 do so too.
        rows = [[0, 1, 2, 5], [0, 1, 3, 5], [0, 2, 3], [0, 1, 2, 3, 4], [0, 5]]
        self.assertEqual(last(*with_holes(5, 6, rows), ("alone", 0)), [1, 2, 2, 4])

    def test_eleven_terms_together(self):
        # At place 11 all terms have holes, at each place before it all but one.
        calls = all_but_one(11, 40)[:12] + [("item", 11, list(range(11)))]
        self.assertEqual(last(*calls, ("alone", 11)), [1, 11] + list(range(11)))
        self.assertEqual(last(*calls, ("alone", 0)), [0])
        self.assertEqual(last(*calls, ("alone", 39)), [0])

    def test_the_last_place_and_the_last_term(self):
        calls = [("file", 11, 40), ("item", 39, [10])]
        self.assertEqual(last(*calls, ("alone", 39)), [1, 1, 10])

    def test_none_where_two_places_are_alike(self):
        calls = [("file", 3, 2), ("item", 0, [0, 2]), ("item", 1, [0, 2])]
        self.assertEqual(told(*calls, ("alone", 0), ("alone", 1))[3:], [[0], [0]])

    def test_it_goes_by_the_holes_and_not_by_the_item_cards(self):
        calls = [("file", 3, 2), ("item", 0, [0, 2]), ("item", 1, [0, 2])]
        self.assertEqual(last(*calls, ("toggle", 6, 1), ("alone", 0)), [1, 1, 2])
        self.assertEqual(last(*calls, ("toggle", 5, 1), ("alone", 1)), [1, 1, 1])

    def test_numbers_that_are_no_place(self):
        for place in (-1, 4, 40, LEAST, GREATEST):
            self.assertEqual(last(*FILE, ("alone", place)), [-1])
            self.assertEqual(last(*FILE, ("lose", 3), ("alone", place)), [-1])
        self.assertEqual(last(("alone", 1)), [-1])


class Concepts(unittest.TestCase):
    def test_one_term(self):
        self.assertEqual(last(("concepts",)), [2])
        self.assertEqual(last(("item", 0, [0]), ("concepts",)), [1])
        self.assertEqual(last(("file", 1, 2), ("item", 0, [0]), ("concepts",)), [2])
        self.assertEqual(last(("file", 1, 2), ("item", 0, [0]), ("item", 1, [0]), ("concepts",)), [1])

    def test_no_hole_at_all(self):
        # No term lets all places shine; each other set lets none shine, and all terms are closed.
        for terms, places in ((1, 40), (2, 2), (11, 1), (11, 40)):
            self.assertEqual(last(("file", terms, places), ("concepts",)), [2])

    def test_holes_everywhere(self):
        calls = with_holes(9, 40, [range(40)] * 9)
        self.assertEqual(last(*calls, ("concepts",)), [1])

    def test_some_items(self):
        # Just their own closed terms are: none, 1, 0 1, 1 2, 0 1 2.
        self.assertEqual(last(*FILE, ("concepts",)), [5])
        self.assertEqual(last(*FILE[:3], ("concepts",)), [5])
        self.assertEqual(last(*FILE, ("item", 2, [0, 2]), ("concepts",)), [8])

    def test_every_set_of_eleven_terms(self):
        self.assertEqual(last(*all_but_one(11, 11), ("concepts",)), [2048])
        self.assertEqual(last(*all_but_one(11, 40), ("concepts",)), [2048])
        self.assertEqual(last(*all_but_one(11, 10), ("concepts",)), [1024])

    def test_it_goes_by_the_holes_and_not_by_the_item_cards(self):
        self.assertEqual(last(*FILE[:3], ("toggle", 5, 2), ("toggle", 5, 3), ("concepts",)), [4])
        self.assertEqual(last(*FILE[:3], ("toggle", 0, 2), ("toggle", 8, 3), ("concepts",)), [5])


class Further(unittest.TestCase):
    def test_how_many_would_shine(self):
        asked = [([0], [2, 2, 1]), ([1], [2, 3, 2]), ([2], [1, 2, 2]), ([0, 2], [1, 1, 1]), ([1, 2], [1, 2, 2])]
        for terms, counts in asked:
            self.assertEqual(last(*FILE, ("further", terms)), [3] + counts, terms)

    def test_of_no_terms(self):
        self.assertEqual(last(*FILE, ("further", [])), [3, 2, 3, 2])
        self.assertEqual(last(("further", [])), [1, 0])
        self.assertEqual(last(("item", 0, [0]), ("further", [])), [1, 1])

    def test_of_all_terms(self):
        self.assertEqual(last(*FILE, ("further", [0, 1, 2])), [3, 1, 1, 1])
        self.assertEqual(last(("file", 11, 40), ("further", list(range(11)))), [11] + [0] * 11)

    def test_a_term_among_them_already_takes_nothing_away(self):
        for terms in subsets(3):
            shining = last(*FILE, ("light", terms))[0]
            answer = last(*FILE, ("further", terms))
            for term in range(3):
                both = sorted(set(terms + [term]))
                self.assertEqual(answer[1 + term], last(*FILE, ("light", both))[0])
                if term in terms:
                    self.assertEqual(answer[1 + term], shining)

    def test_all_forty_places(self):
        calls = with_holes(9, 40, [range(40)] * 4 + [range(39)] * 5)
        self.assertEqual(last(*calls, ("further", [0, 3])), [9] + [40] * 4 + [39] * 5)
        self.assertEqual(last(*calls, ("further", [4])), [9] + [39] * 9)

    def test_it_goes_by_the_holes_and_not_by_the_item_cards(self):
        self.assertEqual(last(*FILE, ("toggle", 3, 2), ("further", [])), [3, 3, 3, 2])
        self.assertEqual(last(*FILE, ("toggle", 6, 3), ("further", [0])), [3, 2, 2, 0])

    def test_lists_that_are_not_as_told(self):
        for terms in NO_TERMS:
            self.assertEqual(last(*FILE, ("further", terms)), [-1], terms)
            self.assertEqual(last(*FILE, ("lose", 5), ("further", terms)), [-1], terms)


class LostCards(unittest.TestCase):
    def test_any_terms_lost_card_refuses(self):
        for card in (3, 5, 6):
            for call in OF_ALL:
                self.assertEqual(last(*FILE, ("lose", card), call), [-5], (card, call))
        for card in TERM_CARDS:
            for call in OF_ALL:
                self.assertEqual(last(("file", 11, 40), ("lose", 8), ("lose", card), call), [-5], (card, call))

    def test_lost_check_cards_do_not(self):
        for lost in itertools.combinations(CHECK_CARDS, 4):
            for call in OF_ALL:
                calls = FILE + [("lose", card) for card in lost]
                self.assertEqual(last(*calls, call), last(*FILE, call), (lost, call))

    def test_they_answer_again_when_mended(self):
        for call in OF_ALL:
            calls = FILE + [("lose", 3), ("lose", 6), call, ("mend",), call]
            self.assertEqual(told(*calls)[-3:], [[-5], [0, 0], last(*FILE, call)], call)

    def test_nothing_has_changed_after_a_refusal(self):
        lost = FILE + [("toggle", 5, 1), ("lose", 3), ("lose", 0)]
        before = state(lost, 3, 4)
        refused = OF_ALL + [("common", [4]), ("closed", [1, 1]), ("alone", 4), ("further", [-1]), ("anew", 3)]
        for call in refused:
            self.assertLess(last(*lost, call)[0], 0, call)
            self.assertEqual(state(lost + [call], 3, 4), before, call)


class Time(unittest.TestCase):
    def test_six_at_eleven_terms_and_forty_places(self):
        full = all_but_one(11, 40)
        # Every place has nearly all terms, and each has a place like it, so that every set is tried in vain.
        dense = [("file", 11, 40)]
        dense += [("item", p, [t for t in range(11) if t not in (p % 20 % 11, p % 20 // 2)]) for p in range(40)]
        scattered = with_holes(11, 40, [[p for p in range(40) if (p * 2654435761 >> 7 + t) & 1] for t in range(11)])
        for calls in (full, dense, scattered):
            self.assertLessEqual(len(calls) + 6, 400)
            asked = [("alone", 0), ("concepts",), ("alone", 39), ("concepts",), ("alone", 20), ("concepts",)]
            began = time.perf_counter()
            given = told(*calls, *asked)[-6:]
            self.assertLess(time.perf_counter() - began, 5)
            self.assertEqual(given[1], given[3])
            self.assertEqual(given[1], given[5])
