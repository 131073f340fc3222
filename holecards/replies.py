"""What answers are made of: the numbers of the refusals, lists and pairs."""

NOT_AS_TOLD = -1
FOUR_ARE_LOST = -3
PLACE_IS_TAKEN = -4
CARD_IS_LOST = -5


def counted(numbers):
    """A list as it is answered: how many, then they."""
    return [len(numbers)] + numbers


def paired(pairs):
    """Pairs as they are answered: how many, then two numbers each."""
    answer = [len(pairs)]
    for pair in pairs:
        answer.extend(pair)
    return answer
