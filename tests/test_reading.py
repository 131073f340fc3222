import itertools
import unittest

from tests.line import cards_of, last, told, ways_by_the_words


def reading_by_the_words(cards, lost, rows):
    """What unread and wrong answer for places with these holes."""
    unread, wrong = [], []
    for place, holes in enumerate(rows):
        seen = tuple(card for card in holes if card not in lost)
        ways = ways_by_the_words(tuple(cards), tuple(lost), seen)
        if len(ways) != 1:
            unread.append(place)
        elif ways[0][0] is not None:
            wrong.append((ways[0][0], place))
    return [[len(unread)] + unread, [len(wrong)] + [number for pair in wrong for number in pair]]


def punched(terms, rows):
    calls = [("file", terms, len(rows))]
    for place, holes in enumerate(rows):
        calls.extend(("toggle", card, place) for card in holes)
    return calls


def one_row_of_each_kind():
    """Holes of check cards alone for each of the 32 ways in which the five counts are even or odd."""
    return [list(chosen) for size in range(6) for chosen in itertools.combinations((0, 1, 2, 4, 8), size)]


class ReadingByTheWords(unittest.TestCase):
    def compare(self, terms, rows, lost):
        calls = punched(terms, rows) + [("lose", card) for card in lost] + [("unread",), ("wrong",)]
        expected = reading_by_the_words(cards_of(terms), lost, rows)
        self.assertEqual(told(*calls)[-2:], expected, (terms, lost))

    def test_every_loss_with_few_terms(self):
        rows = one_row_of_each_kind()
        for terms in (1, 2, 3):
            for size in range(5):
                for lost in itertools.combinations(cards_of(terms), size):
                    self.compare(terms, rows, lost)

    def test_losses_with_eleven_terms(self):
        rows = one_row_of_each_kind()
        losses = [lost for size in range(5) for lost in itertools.combinations(cards_of(11), size)]
        for lost in losses[:17] + losses[17::23]:
            self.compare(11, rows, lost)

    def test_all_numbers_of_terms(self):
        rows = one_row_of_each_kind()
        for terms in range(1, 12):
            cards = cards_of(terms)
            for lost in ((), (cards[0],), (cards[-1],), tuple(cards[-2:]), tuple(cards[1:4]), tuple(cards[-4:])):
                self.compare(terms, rows, lost)

    def test_holes_of_the_terms_cards_too(self):
        rows = [[card for card in cards_of(11) if (place * 2654435761 >> card) & 1] for place in range(1, 19)]
        for lost in ((), (7,), (0, 15), (3, 5, 6), (8, 9, 10, 11), (0, 3, 5, 6), (0, 1, 2, 4)):
            self.compare(11, rows, lost)

    def test_forty_places(self):
        rows = [[cards_of(11)[place % 16]] + ([14] if place % 3 == 0 and place % 16 != 14 else [])
                for place in range(40)]
        for lost in ((), (1,), (1, 14), (0, 1, 14), (0, 1, 14, 15)):
            self.compare(11, rows, lost)


class Unread(unittest.TestCase):
    def test_nothing_lost(self):
        calls = [("file", 3, 4), ("item", 0, [0, 1]), ("item", 2, [2])]
        self.assertEqual(told(*calls, ("unread",), ("wrong",))[3:], [[0], [0]])
        one = calls + [("toggle", 5, 0), ("toggle", 8, 1), ("toggle", 0, 2)]
        self.assertEqual(told(*one, ("unread",), ("wrong",))[-2:], [[0], [3, 5, 0, 8, 1, 0, 2]])
        two = one + [("toggle", 3, 0), ("toggle", 1, 1), ("toggle", 6, 3)]
        self.assertEqual(told(*two, ("unread",), ("wrong",))[-2:], [[2, 0, 1], [2, 0, 2, 6, 3]])

    def test_three_wrong_holes_may_look_like_one(self):
        calls = [("file", 3, 1), ("toggle", 3, 0), ("toggle", 5, 0), ("toggle", 6, 0)]
        self.assertEqual(told(*calls, ("unread",), ("wrong",))[-2:], [[0], [1, 0, 0]])

    def test_a_card_that_there_is_not_is_not_the_wrong_one(self):
        # 1, 2 and 4 would be put right by 7, the card of the fourth term.
        holes = [("toggle", 1, 0), ("toggle", 2, 0), ("toggle", 4, 0)]
        self.assertEqual(told(("file", 3, 1), *holes, ("unread",), ("wrong",))[-2:], [[1, 0], [0]])
        self.assertEqual(told(("file", 4, 1), *holes, ("unread",), ("wrong",))[-2:], [[0], [1, 7, 0]])

    def test_the_object_before_its_first_call(self):
        for card in (0, 1, 2, 3, 4, 8):
            self.assertEqual(told(("toggle", card, 0), ("unread",), ("wrong",))[1:], [[0], [1, card, 0]])

    def test_three_lost_cards_and_no_wrong_hole_can_be_read(self):
        calls = [("file", 3, 3), ("item", 0, [0, 1, 2]), ("item", 1, [1])]
        for lost in itertools.combinations(cards_of(3), 3):
            asked = calls + [("lose", card) for card in lost] + [("unread",), ("wrong",)]
            self.assertEqual(told(*asked)[-2:], [[0], [0]], lost)

    def test_four_lost_cards_that_stand_for_one_another(self):
        # Holes in all of 0, 3, 5 and 6 are as even as none: two ways.
        lost = [("lose", card) for card in (0, 3, 5, 6)]
        calls = [("file", 3, 2), ("item", 0, [0]), *lost]
        self.assertEqual(told(*calls, ("unread",), ("wrong",))[-2:], [[2, 0, 1], [0]])

    def test_four_lost_cards_that_do_not(self):
        lost = [("lose", card) for card in (0, 1, 2, 4)]
        calls = [("file", 3, 2), ("item", 0, [0]), *lost]
        self.assertEqual(told(*calls, ("unread",), ("wrong",))[-2:], [[0], [0]])
        # The one card left with the part 8 is the wrong one.
        self.assertEqual(told(*calls, ("toggle", 8, 1), ("unread",), ("wrong",))[-2:], [[0], [1, 8, 1]])

    def test_a_way_without_a_wrong_card_counts_alone(self):
        # The hole in 3 may be wrong, or 3 may be right and 0, 1 and 2, which are lost, have holes.
        calls = [("file", 1, 1), ("lose", 0), ("lose", 1), ("lose", 2), ("toggle", 3, 0)]
        self.assertEqual(told(*calls, ("unread",), ("wrong",))[-2:], [[0], [0]])

    def test_one_lost_card_and_one_wrong_hole(self):
        for lost in cards_of(3):
            for wrong in cards_of(3):
                if wrong != lost:
                    calls = [("file", 3, 2), ("item", 1, [0, 2]), ("toggle", wrong, 1), ("lose", lost)]
                    self.assertEqual(told(*calls, ("unread",), ("wrong",))[-2:], [[0], [1, wrong, 1]], (lost, wrong))

    def test_two_lost_cards_and_one_wrong_hole(self):
        # 1 and 2 are lost: 3 as the wrong card and 0 as the wrong card are told apart by no count.
        calls = [("file", 1, 1), ("lose", 1), ("lose", 2), ("toggle", 3, 0)]
        self.assertEqual(told(*calls, ("unread",), ("wrong",))[-2:], [[1, 0], [0]])
        # With 2 terms and 0 and 8 lost, nothing but 5 can be wrong with the parts 1 and 4.
        calls = [("file", 2, 1), ("lose", 0), ("lose", 8), ("toggle", 5, 0)]
        self.assertEqual(told(*calls, ("unread",), ("wrong",))[-2:], [[0], [1, 5, 0]])

    def test_item_cards_do_not_matter(self):
        for wrong in ([], [3], [0], [3, 5], [3, 0], [1, 2, 4]):
            turned = [("toggle", card, 1) for card in wrong]
            for lost in ([], [8], [8, 6], [8, 6, 2], [0, 3, 5, 6]):
                calls = turned + [("lose", card) for card in lost] + [("unread",), ("wrong",)]
                bare = told(("file", 3, 2), *calls)[-2:]
                self.assertEqual(told(("file", 3, 2), ("item", 1, []), *calls)[-2:], bare)
                self.assertEqual(told(("file", 3, 2), ("item", 1, [0, 1, 2]), *calls)[-2:], bare)


class Wrong(unittest.TestCase):
    def test_pairs_by_places(self):
        calls = [("file", 3, 5), ("toggle", 0, 4), ("toggle", 8, 0), ("toggle", 6, 2), ("toggle", 3, 3)]
        self.assertEqual(last(*calls, ("wrong",)), [4, 8, 0, 6, 2, 3, 3, 0, 4])

    def test_a_hole_that_lacks_is_wrong_too(self):
        calls = [("file", 3, 2), ("item", 0, [0, 1]), ("toggle", 3, 0), ("toggle", 0, 1)]
        self.assertEqual(last(*calls, ("wrong",)), [2, 3, 0, 0, 1])

    def test_every_card_at_the_last_place(self):
        for card in cards_of(11):
            calls = [("file", 11, 40), ("item", 39, [0, 10]), ("toggle", card, 39), ("wrong",)]
            self.assertEqual(last(*calls), [1, card, 39])

    def test_turned_back_it_is_right(self):
        calls = [("file", 3, 2), ("toggle", 3, 0), ("toggle", 3, 0), ("wrong",)]
        self.assertEqual(last(*calls), [0])

    def test_an_item_on_wrong_holes(self):
        calls = [("file", 3, 2), ("toggle", 3, 0), ("item", 0, [0, 1]), ("wrong",)]
        self.assertEqual(last(*calls), [1, 3, 0])
