"""The object that the calls of a line ask and change."""

from holecards.cards import cards_for


class CardFile:
    """Cards with holes and item cards, and which cards are lost."""

    def __init__(self):
        self.set_up(1, 1)

    def set_up(self, term_count, place_count):
        self.term_count = term_count
        self.place_count = place_count
        self.cards = cards_for(term_count)
        self.holes = {}
        for card in self.cards:
            self.holes[card] = [False] * place_count
        # None stands for no item, since an item without terms has an empty list.
        self.item_cards = [None] * place_count
        self.lost = {}

    def is_term(self, number):
        return 0 <= number < self.term_count

    def is_place(self, number):
        return 0 <= number < self.place_count

    def is_card(self, number):
        return number in self.cards

    def are_terms(self, numbers):
        """Whether the numbers are terms, rising, none twice."""
        before = -1
        for number in numbers:
            if number <= before or not self.is_term(number):
                return False
            before = number
        return True

    def is_lost(self, card):
        return card in self.lost

    def lost_cards(self):
        return [card for card in self.cards if self.is_lost(card)]

    def kept_cards(self):
        return [card for card in self.cards if not self.is_lost(card)]

    def has_hole(self, card, place):
        return self.holes[card][place]

    def places_of(self, card):
        """The places, rising, at which the card has holes."""
        return [place for place in range(self.place_count) if self.has_hole(card, place)]

    def cards_at(self, place):
        """The cards, rising, that have a hole at the place."""
        return [card for card in self.cards if self.has_hole(card, place)]

    def turn_hole(self, card, place):
        self.holes[card][place] = not self.holes[card][place]

    def take_out(self, card):
        self.lost[card] = True
        self.holes[card] = [False] * self.place_count
