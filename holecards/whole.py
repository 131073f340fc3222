"""The calls that ask the cards of all terms: each is refused if one of these is lost."""

from holecards.light import closed_terms, common_terms, count_concepts, first_set_alone, shining_places, still_shining
from holecards.replies import CARD_IS_LOST, NOT_AS_TOLD, counted


def terms_in_common(card_file, places):
    if not card_file.are_places(places):
        return [NOT_AS_TOLD]
    if card_file.lacks_a_term():
        return [CARD_IS_LOST]
    return counted(common_terms(card_file, places))


def terms_closed(card_file, terms):
    if not card_file.are_terms(terms):
        return [NOT_AS_TOLD]
    if card_file.lacks_a_term():
        return [CARD_IS_LOST]
    return counted(closed_terms(card_file, terms))


def terms_for_one_place(card_file, place):
    if not card_file.is_place(place):
        return [NOT_AS_TOLD]
    if card_file.lacks_a_term():
        return [CARD_IS_LOST]
    terms = first_set_alone(card_file, place)
    if terms is None:
        return [0]
    return [1] + counted(terms)


def how_many_concepts(card_file):
    if card_file.lacks_a_term():
        return [CARD_IS_LOST]
    return [count_concepts(card_file)]


def places_with_one_term_more(card_file, terms):
    if not card_file.are_terms(terms):
        return [NOT_AS_TOLD]
    if card_file.lacks_a_term():
        return [CARD_IS_LOST]
    places = shining_places(card_file, terms)
    counts = [len(still_shining(card_file, places, term)) for term in card_file.terms()]
    return [card_file.term_count] + counts
