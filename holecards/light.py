"""Where light shines through cards laid on one another, and what terms shining places share."""

from holecards.cards import card_of


def still_shining(card_file, places, term):
    """Those of the places at which the term's card has a hole too."""
    card = card_of(term)
    return [place for place in places if card_file.has_hole(card, place)]


def shining_places(card_file, terms):
    places = card_file.places()
    for term in terms:
        places = still_shining(card_file, places, term)
    return places


def common_terms(card_file, places):
    """The terms whose cards have holes at all of the places."""
    return [term for term in card_file.terms() if still_shining(card_file, places, term) == places]


def closed_terms(card_file, terms):
    return common_terms(card_file, shining_places(card_file, terms))


def one_term_more(card_file, lit_sets):
    """Each set of terms with each later term added, beside the places that shine for it.

    Handed sets of one size in their order, it gives back all of the next size in theirs.
    """
    larger = []
    for lit_set in lit_sets:
        terms = lit_set[0]
        for term in card_file.terms():
            if len(terms) == 0 or term > terms[-1]:
                larger.append((terms + [term], still_shining(card_file, lit_set[1], term)))
    return larger


def first_set_alone(card_file, place):
    """The first set of terms for which just this place shines, or None."""
    lit_sets = [([], card_file.places())]
    while len(lit_sets) > 0:
        for lit_set in lit_sets:
            if lit_set[1] == [place]:
                return lit_set[0]
        lit_sets = one_term_more(card_file, lit_sets)
    return None


def count_concepts(card_file):
    """How many sets of terms are just their own closed terms."""
    # Of all sets for which the same places shine, just one is such a set: the terms
    # common to these places. So it is enough to count what can shine.
    can_shine = {tuple(card_file.places()): True}
    for term in card_file.terms():
        for places in list(can_shine):
            can_shine[tuple(still_shining(card_file, places, term))] = True
    return len(can_shine)
