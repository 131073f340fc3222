"""Writes lines of calls by their names, takes their answers apart, and reads places by the document's words."""

import functools
import itertools

from holecards.files import answers

NAMES = (
    "file", "item", "light", "found", "term", "itemcard", "check", "toggle", "lose", "unread", "wrong",
    "mend", "unlike", "anew", "common", "closed", "alone", "concepts", "further", "counts", "clear")
TERM_CARDS = (3, 5, 6, 7, 9, 10, 11, 12, 13, 14, 15)
CHECK_CARDS = (0, 1, 2, 4, 8)
LEAST = -9223372036854775808
GREATEST = 9223372036854775807


def flat(calls):
    numbers = []
    for call in calls:
        numbers.append(NAMES.index(call[0]))
        for part in call[1:]:
            if isinstance(part, int):
                numbers.append(part)
            else:
                numbers.append(len(part))
                numbers.extend(part)
    return numbers


def apart(given):
    rows = []
    at = 0
    while at < len(given):
        end = at + 1 + given[at]
        assert given[at] > 0 and end <= len(given), given
        rows.append(given[at + 1:end])
        at = end
    return rows


def told(*calls):
    """The answers of a line, one list a call."""
    rows = apart(answers(flat(calls)))
    assert len(rows) == len(calls), (calls, rows)
    return rows


def last(*calls):
    return told(*calls)[-1]


def cards_of(term_count):
    return sorted(CHECK_CARDS + TERM_CARDS[:term_count])


def is_sound(cards):
    """Whether the cards are even in number, and each of 1, 2, 4, 8 a part of an even number of them."""
    counts = [len(cards)] + [sum(1 for card in cards if card & part) for part in (1, 2, 4, 8)]
    return all(count % 2 == 0 for count in counts)


@functools.lru_cache(maxsize=None)
def ways_by_the_words(cards, lost, holes):
    """Every way that counts, tried one by one: the wrong card, or None, and the lost cards with a hole.

    All three are tuples, and holes tells of no lost card.
    """
    without, with_one = [], []
    for size in range(len(lost) + 1):
        for filled in itertools.combinations(lost, size):
            if is_sound(set(holes) | set(filled)):
                without.append((None, filled))
            for wrong in set(cards) - set(lost):
                if is_sound((set(holes) ^ {wrong}) | set(filled)):
                    with_one.append((wrong, filled))
    return without or with_one


def survey(term_count, place_count):
    """Calls that tell all there is to tell: what changes nothing, then mend, which lets lost cards tell too."""
    calls = [("itemcard", place) for place in range(place_count)]
    calls.append(("itemcard", place_count))
    calls.extend(("check", card) for card in range(16))
    calls.extend(("term", term) for term in range(term_count + 1))
    calls.extend([("light", []), ("found", []), ("unread",), ("wrong",), ("unlike",), ("counts",), ("mend",)])
    calls.extend(("check", card) for card in range(16))
    return calls


def state(calls, term_count, place_count):
    asked = survey(term_count, place_count)
    return told(*calls, *asked)[len(calls):]
