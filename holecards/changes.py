"""The calls that change a card file: each gives back its answer."""

from holecards.cards import item_holes
from holecards.reading import read_places
from holecards.replies import CARD_IS_LOST, FOUR_ARE_LOST, NOT_AS_TOLD, PLACE_IS_TAKEN, counted

MOST_TERMS = 11
MOST_PLACES = 40
MOST_LOST = 4


def set_up_file(card_file, term_count, place_count):
    if not 1 <= term_count <= MOST_TERMS or not 1 <= place_count <= MOST_PLACES:
        return [NOT_AS_TOLD]
    card_file.set_up(term_count, place_count)
    return [0]


def enter_item(card_file, place, terms):
    if not card_file.is_place(place) or not card_file.are_terms(terms):
        return [NOT_AS_TOLD]
    if card_file.item_cards[place] is not None:
        return [PLACE_IS_TAKEN]
    if len(card_file.lost) > 0:
        return [CARD_IS_LOST]
    card_file.item_cards[place] = list(terms)
    cards = item_holes(terms)
    for card in cards:
        card_file.turn_hole(card, place)
    return counted(cards)


def toggle_hole(card_file, card, place):
    if not card_file.is_card(card) or not card_file.is_place(place):
        return [NOT_AS_TOLD]
    if card_file.is_lost(card):
        return [CARD_IS_LOST]
    card_file.turn_hole(card, place)
    return [1 if card_file.has_hole(card, place) else 0]


def lose_card(card_file, card):
    if not card_file.is_card(card):
        return [NOT_AS_TOLD]
    if card_file.is_lost(card):
        return [CARD_IS_LOST]
    if len(card_file.lost) >= MOST_LOST:
        return [FOUR_ARE_LOST]
    card_file.take_out(card)
    return [len(card_file.lost)]


def mend_cards(card_file):
    readings = read_places(card_file)
    unread = 0
    put_right = 0
    for place in card_file.places():
        way = readings[place]
        if way is None:
            unread = unread + 1
            continue
        put_right = put_right + (0 if way[0] is None else 1)
        mend_place(card_file, place, way)
    card_file.have_all_cards()
    return [unread, put_right]


def mend_place(card_file, place, way):
    if way[0] is not None:
        card_file.turn_hole(way[0], place)
    for card in way[1]:
        # A lost card's holes are gone, so turning punches.
        card_file.turn_hole(card, place)


def clear_file(card_file):
    card_file.begin()
    return [0]
