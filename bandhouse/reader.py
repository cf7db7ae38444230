"""The list of calls, read call by call."""

# How many whole numbers, and how many rows with their counts, follow each call's number.
SHAPES = {
    0: (0, 1),
    1: (0, 0),
    2: (0, 0),
    3: (0, 3),
    4: (0, 0),
    5: (0, 1),
    6: (0, 1),
    7: (2, 0),
    8: (1, 0),
    9: (0, 2),
    10: (0, 0),
}


class Call:
    """A call: its number, its whole numbers, its rows."""

    def __init__(self, number, numbers, rows):
        self.number = number
        self.numbers = numbers
        self.rows = rows


def read_calls(listed):
    """The calls that a list tells; their numbers and rows are copies."""
    calls = []
    place = 0
    while place < len(listed):
        shape = SHAPES[listed[place]]
        behind = place + 1 + shape[0]
        call = Call(listed[place], listed[place + 1:behind], [])
        while len(call.rows) < shape[1]:
            ended = behind + 1 + listed[behind]
            call.rows.append(listed[behind + 1:ended])
            behind = ended
        calls.append(call)
        place = behind
    return calls
