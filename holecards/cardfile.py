"""The object that the calls of a line ask and change."""

from holecards.cards import card_of, cards_for


def are_rising_below(numbers, limit):
    """Whether the numbers are rising, none twice, from 0 on and below the limit."""
    before = -1
    for number in numbers:
        if number <= before or number >= limit:
            return False
        before = number
    return True


class CardFile:
    """Cards with holes and item cards, and which cards are lost."""

    def __init__(self):
        self.begin()

    def begin(self):
        self.set_up(1, 1)

    def set_up(self, term_count, place_count):
        self.term_count = term_count
        self.place_count = place_count
        self.cards = cards_for(term_count)
        self.holes = {}
        for card in self.cards:
            self.holes[card] = [False] * place_count
        # None stands for no item, since an item without terms has an empty list.
        self.item_cards = [None] * place_count
        self.lost = {}

    def is_term(self, number):
        return 0 <= number < self.term_count

    def is_place(self, number):
        return 0 <= number < self.place_count

    def is_card(self, number):
        return number in self.cards

    def are_terms(self, numbers):
        return are_rising_below(numbers, self.term_count)

    def are_places(self, numbers):
        return are_rising_below(numbers, self.place_count)

    def terms(self):
        return list(range(self.term_count))

    def places(self):
        return list(range(self.place_count))

    def is_lost(self, card):
        return card in self.lost

    def lacks_a_term(self):
        """Whether any term's card is lost."""
        return any([self.is_lost(card_of(term)) for term in self.terms()])

    def lost_cards(self):
        return [card for card in self.cards if self.is_lost(card)]

    def kept_cards(self):
        return [card for card in self.cards if not self.is_lost(card)]

    def has_hole(self, card, place):
        return self.holes[card][place]

    def places_of(self, card):
        """The places, rising, at which the card has holes."""
        return [place for place in self.places() if self.has_hole(card, place)]

    def cards_at(self, place):
        """The cards, rising, that have a hole at the place."""
        return [card for card in self.cards if self.has_hole(card, place)]

    def turn_hole(self, card, place):
        self.holes[card][place] = not self.holes[card][place]

    def take_out(self, card):
        self.lost[card] = True
        self.holes[card] = [False] * self.place_count

    def have_all_cards(self):
        self.lost = {}

    def item_count(self):
        return len([told for told in self.item_cards if told is not None])

    def item_has(self, place, term):
        """Whether there is an item at the place, and its card tells the term."""
        told = self.item_cards[place]
        return told is not None and term in told
