"""What the calls of a line answer."""

from holecards.calls import split_calls
from holecards.cardfile import CardFile
from holecards.changes import clear_file, enter_item, lose_card, mend_cards, set_up_file, toggle_hole
from holecards.questions import holes_by_item_cards, holes_of_card, holes_of_term, holes_unlike_item_cards
from holecards.questions import how_many_of_each, item_card_at, places_found, places_that_shine, places_unread
from holecards.questions import wrong_holes
from holecards.whole import how_many_concepts, places_with_one_term_more, terms_closed, terms_for_one_place
from holecards.whole import terms_in_common


def answers(calls):
    """For each call, in order, how many numbers it answers, then these."""
    card_file = CardFile()
    given = []
    for call in split_calls(calls):
        answer = answer_call(card_file, call[0], call[1], call[2])
        given.append(len(answer))
        given.extend(answer)
    return given


def answer_call(card_file, name, numbers, row):
    if name == "file":
        return set_up_file(card_file, numbers[0], numbers[1])
    if name == "item":
        return enter_item(card_file, numbers[0], row)
    if name == "toggle":
        return toggle_hole(card_file, numbers[0], numbers[1])
    if name == "lose":
        return lose_card(card_file, numbers[0])
    if name == "mend":
        return mend_cards(card_file)
    if name == "clear":
        return clear_file(card_file)
    return answer_question(card_file, name, numbers, row)


def answer_question(card_file, name, numbers, row):
    if name == "light":
        return places_that_shine(card_file, row)
    if name == "found":
        return places_found(card_file, row)
    if name == "term":
        return holes_of_term(card_file, numbers[0])
    if name == "itemcard":
        return item_card_at(card_file, numbers[0])
    if name == "check":
        return holes_of_card(card_file, numbers[0])
    if name == "unread":
        return places_unread(card_file)
    if name == "wrong":
        return wrong_holes(card_file)
    if name == "unlike":
        return holes_unlike_item_cards(card_file)
    if name == "anew":
        return holes_by_item_cards(card_file, numbers[0])
    if name == "counts":
        return how_many_of_each(card_file)
    return answer_of_all_terms(card_file, name, numbers, row)


def answer_of_all_terms(card_file, name, numbers, row):
    if name == "common":
        return terms_in_common(card_file, row)
    if name == "closed":
        return terms_closed(card_file, row)
    if name == "alone":
        return terms_for_one_place(card_file, numbers[0])
    if name == "concepts":
        return how_many_concepts(card_file)
    return places_with_one_term_more(card_file, row)
