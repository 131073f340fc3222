"""Reading places: which holes are wrong, and what lost cards had there."""


def mark_of(cards):
    """A number that is 0 just if holes in these cards are as an item's holes can be."""
    mark = 0
    for card in cards:
        # Beside the parts 1, 2, 4 and 8 of the card's number, 16 stands for the card
        # itself, so one number tells of all five counts whether they are even.
        mark = mark ^ (16 + card)
    return mark


def fillings_by_mark(lost_cards):
    """Every choice of lost cards that may have a hole at a place, under its mark."""
    fillings = [[]]
    for card in lost_cards:
        fillings = fillings + [filling + [card] for filling in fillings]
    by_mark = {}
    for filling in fillings:
        by_mark.setdefault(mark_of(filling), []).append(filling)
    return by_mark


def ways_to_read(mark, kept_cards, by_mark):
    """The ways that count for holes with this mark.

    A way is the wrong card, or None, and the lost cards that have a hole.
    """
    ways = [(None, filling) for filling in by_mark.get(mark, [])]
    if len(ways) > 0:
        return ways
    for card in kept_cards:
        # A hole too many and a hole too few change the mark alike.
        put_right = mark ^ mark_of([card])
        ways.extend([(card, filling) for filling in by_mark.get(put_right, [])])
    return ways


def read_places(card_file):
    """For each place the one way to read it, or None if it can't be read."""
    kept_cards = card_file.kept_cards()
    by_mark = fillings_by_mark(card_file.lost_cards())
    readings = []
    for place in range(card_file.place_count):
        ways = ways_to_read(mark_of(card_file.cards_at(place)), kept_cards, by_mark)
        readings.append(ways[0] if len(ways) == 1 else None)
    return readings
