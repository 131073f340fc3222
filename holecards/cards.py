"""The numbers of the cards, and the cards that an item has holes in."""

TERM_CARDS = (3, 5, 6, 7, 9, 10, 11, 12, 13, 14, 15)
PART_CARDS = (1, 2, 4, 8)
EVEN_CARD = 0


def card_of(term):
    return TERM_CARDS[term]


def cards_for(term_count):
    """All cards of a file with so many terms, rising."""
    return sorted((EVEN_CARD,) + PART_CARDS + TERM_CARDS[:term_count])


def stands_oddly(part, cards):
    return len([card for card in cards if card & part != 0]) % 2 == 1


def item_holes(terms):
    """The cards, rising, that an item with these terms has holes in."""
    term_cards = [card_of(term) for term in terms]
    cards = term_cards + [part for part in PART_CARDS if stands_oddly(part, term_cards)]
    if len(cards) % 2 == 1:
        cards.append(EVEN_CARD)
    return sorted(cards)
