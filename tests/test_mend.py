import itertools
import unittest

from tests.line import TERM_CARDS, cards_of, last, state, told, ways_by_the_words

FILE = [("file", 3, 4), ("item", 0, [0, 1]), ("item", 1, [1, 2]), ("item", 3, [0, 1, 2])]


def all_checks(terms):
    return [("check", card) for card in cards_of(terms)]


def holes_after(calls, terms):
    """What the cards tell after the calls: for each card the places of its holes."""
    asked = told(*calls, *all_checks(terms))[len(calls):]
    return {card: answer[1:] for card, answer in zip(cards_of(terms), asked)}


def lose_all(cards):
    return [("lose", card) for card in cards]


class Nothing(unittest.TestCase):
    def test_nothing_is_there_to_mend(self):
        self.assertEqual(last(("mend",)), [0, 0])
        self.assertEqual(last(*FILE, ("mend",)), [0, 0])
        self.assertEqual(state(FILE + [("mend",)], 3, 4), state(FILE, 3, 4))


class WrongHoles(unittest.TestCase):
    def test_one_wrong_hole_on_every_card(self):
        for card in cards_of(3):
            for place in range(4):
                calls = FILE + [("toggle", card, place), ("mend",)]
                self.assertEqual(last(*calls), [0, 1], (card, place))
                self.assertEqual(state(calls, 3, 4), state(FILE, 3, 4), (card, place))

    def test_one_wrong_hole_at_each_of_forty_places(self):
        sound = [("file", 11, 40)] + [("item", place, [place % 11]) for place in range(0, 40, 2)]
        wrong = [("toggle", cards_of(11)[place % 16], place) for place in range(40)]
        self.assertEqual(last(*sound, *wrong, ("mend",)), [0, 40])
        self.assertEqual(holes_after(sound + wrong + [("mend",)], 11), holes_after(sound, 11))

    def test_two_wrong_holes_at_a_place_stay(self):
        calls = FILE + [("toggle", 3, 0), ("toggle", 8, 0), ("toggle", 6, 1), ("toggle", 0, 3)]
        self.assertEqual(last(*calls, ("mend",)), [1, 2])
        before, after = holes_after(FILE, 3), holes_after(calls + [("mend",)], 3)
        self.assertEqual(after, {**before, 3: [3], 8: [0]})
        self.assertEqual(told(*calls, ("mend",), ("unread",), ("wrong",))[-2:], [[1, 0], [0]])

    def test_three_wrong_holes_that_look_like_one(self):
        # 3, 5 and 6 are as 0 alone would be: 0 is punched, and there are the holes of three terms.
        calls = [("file", 3, 1), ("toggle", 3, 0), ("toggle", 5, 0), ("toggle", 6, 0), ("mend",)]
        self.assertEqual(last(*calls), [0, 1])
        self.assertEqual(last(*calls, ("check", 0)), [1, 0])
        self.assertEqual(last(*calls, ("light", [0, 1, 2])), [1, 0])

    def test_the_item_cards_stay_as_told_and_do_not_matter(self):
        turned = [("toggle", card, 2) for card in (3, 0, 1, 2)]
        calls = FILE + turned + [("mend",)]
        self.assertEqual(last(*calls), [0, 0])
        self.assertEqual(told(*calls, ("itemcard", 2), ("term", 0), ("unlike",))[-3:], [[0], [3, 0, 2, 3], [1, 0, 2]])


class LostCards(unittest.TestCase):
    def test_up_to_three_lost_cards_come_back_as_they_were(self):
        before = state(FILE, 3, 4)
        for size in range(1, 4):
            for lost in itertools.combinations(cards_of(3), size):
                calls = FILE + lose_all(lost) + [("mend",)]
                self.assertEqual(last(*calls), [0, 0], lost)
                self.assertEqual(state(calls, 3, 4), before, lost)

    def test_four_lost_cards_that_can_be_told_apart(self):
        calls = FILE + lose_all([0, 1, 2, 4]) + [("mend",)]
        self.assertEqual(last(*calls), [0, 0])
        self.assertEqual(state(calls, 3, 4), state(FILE, 3, 4))

    def test_four_lost_cards_that_stand_for_one_another(self):
        # Holes in all of 0, 3, 5 and 6 are as even as none, so no place can be read.
        calls = FILE + lose_all([6, 0, 5, 3]) + [("mend",)]
        self.assertEqual(last(*calls), [4, 0])
        before, after = holes_after(FILE, 3), holes_after(calls, 3)
        self.assertEqual(after, {**before, 0: [], 3: [], 5: [], 6: []})
        self.assertEqual(last(*calls, ("counts",)), [3, 4, 3, 0])

    def test_lost_cards_have_no_hole_where_a_place_could_not_be_read(self):
        # 3 and 8 are wrong at place 0, where 2 had a hole; 8 alone is wrong at 3, and 5 alone at 1.
        calls = FILE + [("toggle", 3, 0), ("toggle", 8, 0), ("toggle", 8, 3), ("toggle", 5, 1), ("lose", 2)]
        self.assertEqual(last(*calls, ("unread",)), [1, 0])
        self.assertEqual(last(*calls, ("mend",)), [1, 2])
        after = holes_after(calls + [("mend",)], 3)
        self.assertEqual(after, {**holes_after(FILE, 3), 2: [1], 3: [3], 8: [0]})

    def test_a_lost_card_and_a_wrong_hole(self):
        before = state(FILE, 3, 4)
        for lost, wrong in itertools.permutations(cards_of(3), 2):
            for place in (0, 2):
                calls = FILE + [("toggle", wrong, place), ("lose", lost), ("mend",)]
                self.assertEqual(last(*calls), [0, 1], (lost, wrong, place))
                self.assertEqual(state(calls, 3, 4), before, (lost, wrong, place))

    def test_what_is_turned_while_a_card_is_lost_counts(self):
        calls = [("file", 3, 2), ("item", 0, [0]), ("lose", 3), ("toggle", 1, 1), ("toggle", 2, 1), ("toggle", 0, 1)]
        self.assertEqual(last(*calls, ("mend",)), [0, 0])
        self.assertEqual(last(*calls, ("mend",), ("light", [0])), [2, 0, 1])

    def test_no_card_is_lost_then(self):
        calls = FILE + lose_all([3, 5, 6, 8]) + [("mend",)]
        for card in cards_of(3):
            self.assertNotEqual(last(*calls, ("check", card)), [-5])
        self.assertEqual(last(*calls, ("light", [0, 1, 2])), [1, 3])
        self.assertEqual(last(*calls, ("item", 2, [0])), [4, 0, 1, 2, 3])
        self.assertEqual(last(*calls, ("toggle", 3, 2)), [1])
        self.assertEqual(told(*calls, *lose_all([3, 5, 6, 8, 0]))[-5:], [[1], [2], [3], [4], [-3]])
        self.assertEqual(last(*calls, ("concepts",)), last(*FILE, ("concepts",)))
        self.assertEqual(last(*calls, ("counts",)), [3, 4, 3, 0])

    def test_no_card_is_lost_then_even_if_no_place_could_be_read(self):
        calls = FILE + lose_all([0, 3, 5, 6]) + [("mend",)]
        self.assertEqual(last(*calls, ("light", [0])), [0])
        self.assertEqual(last(*calls, ("item", 2, [0])), [4, 0, 1, 2, 3])
        self.assertEqual(last(*calls, ("lose", 3)), [1])

    def test_lost_anew_and_mended_anew(self):
        calls = list(FILE)
        for card in cards_of(3) * 2:
            calls += [("lose", card), ("mend",)]
            self.assertEqual(last(*calls), [0, 0])
        self.assertEqual(state(calls, 3, 4), state(FILE, 3, 4))

    def test_eleven_terms_and_forty_places(self):
        sound = [("file", 11, 40)]
        sound += [("item", place, [t for t in range(11) if (place * 37 + 5) >> t & 1]) for place in range(40)]
        before = holes_after(sound, 11)
        for lost in ((15,), (0, 15), (3, 7, 8), (9, 10, 11)):
            calls = sound + lose_all(lost) + [("mend",)]
            self.assertEqual(last(*calls), [0, 0], lost)
            self.assertEqual(holes_after(calls, 11), before, lost)


class MendTwice(unittest.TestCase):
    def test_what_could_be_read_is_sound_then(self):
        calls = FILE + [("toggle", 3, 0), ("toggle", 5, 1), ("lose", 8), ("mend",)]
        self.assertEqual(told(*calls, ("mend",), ("wrong",), ("unread",))[-4:], [[0, 2], [0, 0], [0], [0]])
        self.assertEqual(state(calls + [("mend",)], 3, 4), state(calls, 3, 4))

    def test_what_could_not_be_read_may_be_read_when_no_card_is_lost(self):
        # The hole in 3 is wrong, or that in 0 lacks with 1 and 2 lost; with no card lost 3 is wrong.
        calls = [("file", 1, 1), ("toggle", 3, 0), ("lose", 1), ("lose", 2)]
        self.assertEqual(told(*calls, ("mend",), ("term", 0), ("mend",), ("term", 0), ("mend",))[-5:],
                         [[1, 0], [1, 0], [0, 1], [0], [0, 0]])

    def test_two_wrong_holes_stay_each_time(self):
        calls = FILE + [("toggle", 3, 0), ("toggle", 8, 0), ("mend",)]
        self.assertEqual(told(*calls, ("mend",), ("mend",))[-3:], [[1, 0], [1, 0], [1, 0]])


class MendByTheWords(unittest.TestCase):
    def compare(self, terms, rows, lost):
        calls = [("file", terms, len(rows))]
        for place, holes in enumerate(rows):
            calls.extend(("toggle", card, place) for card in holes)
        calls += lose_all(lost) + [("mend",)]
        unread, righted = 0, 0
        expected = {card: [] for card in cards_of(terms)}
        for place, holes in enumerate(rows):
            seen = set(holes) - set(lost)
            ways = ways_by_the_words(tuple(cards_of(terms)), tuple(lost), tuple(sorted(seen)))
            if len(ways) == 1:
                wrong, filled = ways[0]
                seen = (seen ^ {wrong} if wrong is not None else seen) | set(filled)
                righted += wrong is not None
            else:
                unread += 1
            for card in seen:
                expected[card].append(place)
        self.assertEqual(last(*calls), [unread, righted], (terms, lost))
        self.assertEqual(holes_after(calls, terms), expected, (terms, lost))

    def test_every_loss_with_few_terms(self):
        checks = (0, 1, 2, 4, 8)
        rows = [list(chosen) for size in range(6) for chosen in itertools.combinations(checks, size)]
        rows += [[3] + row for row in rows[:8]]
        for terms in (1, 2, 3):
            for size in range(5):
                for lost in itertools.combinations(cards_of(terms), size):
                    self.compare(terms, rows, lost)

    def test_losses_with_eleven_terms(self):
        rows = [[card for card in cards_of(11) if (place * 2654435761 >> card) & 1] for place in range(1, 21)]
        rows += [[0, 1, 2, 3], [], [5], [15], [9, 10], [1, 2, 4, 7], [8]]
        losses = [lost for size in range(5) for lost in itertools.combinations(cards_of(11), size)]
        for lost in losses[:17] + losses[17::61] + [tuple(TERM_CARDS[:4]), tuple(TERM_CARDS[-4:])]:
            self.compare(11, rows, lost)
