"""Writes lines of calls by their names and takes their answers apart."""

from holecards.files import answers

NAMES = ("file", "item", "light", "found", "term", "itemcard", "check", "toggle", "lose", "unread", "wrong")
TERM_CARDS = (3, 5, 6, 7, 9, 10, 11, 12, 13, 14, 15)
CHECK_CARDS = (0, 1, 2, 4, 8)
LEAST = -9223372036854775808
GREATEST = 9223372036854775807


def flat(calls):
    numbers = []
    for call in calls:
        numbers.append(NAMES.index(call[0]))
        for part in call[1:]:
            if isinstance(part, int):
                numbers.append(part)
            else:
                numbers.append(len(part))
                numbers.extend(part)
    return numbers


def apart(given):
    rows = []
    at = 0
    while at < len(given):
        end = at + 1 + given[at]
        assert given[at] > 0 and end <= len(given), given
        rows.append(given[at + 1:end])
        at = end
    return rows


def told(*calls):
    """The answers of a line, one list a call."""
    rows = apart(answers(flat(calls)))
    assert len(rows) == len(calls), (calls, rows)
    return rows


def last(*calls):
    return told(*calls)[-1]


def cards_of(term_count):
    return sorted(CHECK_CARDS + TERM_CARDS[:term_count])


def is_sound(cards):
    """Whether the cards are even in number, and each of 1, 2, 4, 8 a part of an even number of them."""
    counts = [len(cards)] + [sum(1 for card in cards if card & part) for part in (1, 2, 4, 8)]
    return all(count % 2 == 0 for count in counts)


def survey(term_count, place_count):
    """Calls that change nothing and tell all that these calls can tell."""
    calls = [("itemcard", place) for place in range(place_count)]
    calls.append(("itemcard", place_count))
    calls.extend(("check", card) for card in range(16))
    calls.extend(("term", term) for term in range(term_count + 1))
    calls.extend([("light", []), ("found", []), ("unread",), ("wrong",)])
    return calls


def state(calls, term_count, place_count):
    asked = survey(term_count, place_count)
    return told(*calls, *asked)[len(calls):]
