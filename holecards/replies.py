"""What answers are made of: the numbers of the refusals, and lists."""

NOT_AS_TOLD = -1
FOUR_ARE_LOST = -3
PLACE_IS_TAKEN = -4
CARD_IS_LOST = -5


def counted(numbers):
    """A list as it is answered: how many, then they."""
    return [len(numbers)] + numbers
