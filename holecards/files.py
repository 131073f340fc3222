"""What the calls of a line answer."""

from holecards.calls import split_calls
from holecards.cardfile import CardFile
from holecards.changes import enter_item, lose_card, set_up_file, toggle_hole
from holecards.questions import holes_of_card, holes_of_term, item_card_at, places_found
from holecards.questions import places_that_shine, places_unread, wrong_holes


def answers(calls):
    """For each call, in order, how many numbers it answers, then these."""
    card_file = CardFile()
    given = []
    for call in split_calls(calls):
        answer = answer_call(card_file, call[0], call[1], call[2])
        given.append(len(answer))
        given.extend(answer)
    return given


def answer_call(card_file, name, numbers, row):
    if name == "file":
        return set_up_file(card_file, numbers[0], numbers[1])
    if name == "item":
        return enter_item(card_file, numbers[0], row)
    if name == "toggle":
        return toggle_hole(card_file, numbers[0], numbers[1])
    if name == "lose":
        return lose_card(card_file, numbers[0])
    return answer_question(card_file, name, numbers, row)


def answer_question(card_file, name, numbers, row):
    if name == "light":
        return places_that_shine(card_file, row)
    if name == "found":
        return places_found(card_file, row)
    if name == "term":
        return holes_of_term(card_file, numbers[0])
    if name == "itemcard":
        return item_card_at(card_file, numbers[0])
    if name == "check":
        return holes_of_card(card_file, numbers[0])
    if name == "unread":
        return places_unread(card_file)
    return wrong_holes(card_file)
