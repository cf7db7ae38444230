"""How the tests tell calls and read answers."""

from bandhouse.house import answers

PRINT = [1]
BEGIN = [2]
NOW = [4]


def told(row):
    return [len(row)] + list(row)


def build(text):
    numbers = list(text.encode("latin-1")) if isinstance(text, str) else list(text)
    return [0] + told(numbers)


def tick(weather, errors, losses):
    return [3] + told(weather) + told(errors) + told(losses)


def posts(row):
    return [5] + told(row)


def ask(*calls):
    """The answers of these calls on one new house, a list for each."""
    given = answers([number for call in calls for number in call])
    split = []
    place = 0
    while place < len(given):
        split.append(given[place + 1:place + 1 + given[place]])
        place += 1 + given[place]
    assert len(split) == len(calls)
    assert all(split)
    return split


def ask_last(*calls):
    return ask(*calls)[-1]


def built(text):
    """What build answers for a text."""
    return ask_last(build(text))


def printed(answer):
    """The text in what print answers."""
    assert answer[0] == 0
    return bytes(answer[1:]).decode("ascii")


def lines(*rows):
    return "".join(row + "\n" for row in rows)
