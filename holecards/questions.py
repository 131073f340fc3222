"""The calls that change nothing: each gives back its answer."""

from holecards.cards import card_of
from holecards.light import shining_places
from holecards.reading import read_places
from holecards.replies import CARD_IS_LOST, NOT_AS_TOLD, counted, paired


def places_that_shine(card_file, terms):
    if not card_file.are_terms(terms):
        return [NOT_AS_TOLD]
    if any([card_file.is_lost(card_of(term)) for term in terms]):
        return [CARD_IS_LOST]
    return counted(shining_places(card_file, terms))


def places_found(card_file, terms):
    if not card_file.are_terms(terms):
        return [NOT_AS_TOLD]
    found = []
    for place in card_file.places():
        told = card_file.item_cards[place]
        if told is not None and all([term in told for term in terms]):
            found.append(place)
    return counted(found)


def holes_of_term(card_file, term):
    if not card_file.is_term(term):
        return [NOT_AS_TOLD]
    return holes_of_card(card_file, card_of(term))


def holes_of_card(card_file, card):
    if not card_file.is_card(card):
        return [NOT_AS_TOLD]
    if card_file.is_lost(card):
        return [CARD_IS_LOST]
    return counted(card_file.places_of(card))


def item_card_at(card_file, place):
    if not card_file.is_place(place):
        return [NOT_AS_TOLD]
    told = card_file.item_cards[place]
    if told is None:
        return [0]
    return [1] + counted(told)


def places_unread(card_file):
    readings = read_places(card_file)
    return counted([place for place in range(len(readings)) if readings[place] is None])


def wrong_holes(card_file):
    readings = read_places(card_file)
    pairs = []
    for place in range(len(readings)):
        way = readings[place]
        if way is not None and way[0] is not None:
            pairs.append((way[0], place))
    return paired(pairs)


def holes_unlike_item_cards(card_file):
    pairs = []
    for term in card_file.terms():
        card = card_of(term)
        if card_file.is_lost(card):
            continue
        for place in card_file.places():
            if card_file.has_hole(card, place) != card_file.item_has(place, term):
                pairs.append((term, place))
    return paired(pairs)


def holes_by_item_cards(card_file, term):
    if not card_file.is_term(term):
        return [NOT_AS_TOLD]
    return counted([place for place in card_file.places() if card_file.item_has(place, term)])


def how_many_of_each(card_file):
    return [card_file.term_count, card_file.place_count, card_file.item_count(), len(card_file.lost)]
