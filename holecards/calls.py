"""How calls lie one behind another in one list."""

# Each call's name, how many whole numbers it has, and whether a list follows them.
SHAPES = {
    0: ("file", 2, False),
    1: ("item", 1, True),
    2: ("light", 0, True),
    3: ("found", 0, True),
    4: ("term", 1, False),
    5: ("itemcard", 1, False),
    6: ("check", 1, False),
    7: ("toggle", 2, False),
    8: ("lose", 1, False),
    9: ("unread", 0, False),
    10: ("wrong", 0, False),
    11: ("mend", 0, False),
    12: ("unlike", 0, False),
    13: ("anew", 1, False),
    14: ("common", 0, True),
    15: ("closed", 0, True),
    16: ("alone", 1, False),
    17: ("concepts", 0, False),
    18: ("further", 0, True),
    19: ("counts", 0, False),
    20: ("clear", 0, False),
}


def split_calls(calls):
    """The calls, each as its name, its whole numbers and its list."""
    apart = []
    position = 0
    while position < len(calls):
        shape = SHAPES[calls[position]]
        numbers_end = position + 1 + shape[1]
        numbers = calls[position + 1:numbers_end]
        row = []
        position = numbers_end
        if shape[2]:
            position = numbers_end + 1 + calls[numbers_end]
            row = calls[numbers_end + 1:position]
        apart.append((shape[0], numbers, row))
    return apart
