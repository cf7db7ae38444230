"""How the tests tell calls and read answers, and houses to try them on."""

import random

from bandhouse.house import answers
from bandhouse.texts import read_house

PRINT = [1]
BEGIN = [2]
NOW = [4]
BOUNDS = [10]


def told(row):
    return [len(row)] + list(row)


def build(text):
    numbers = list(text.encode("latin-1")) if isinstance(text, str) else list(text)
    return [0] + told(numbers)


def tick(weather, errors, losses):
    return [3] + told(weather) + told(errors) + told(losses)


def posts(row):
    return [5] + told(row)


def joined(rows):
    return [number for row in rows for number in row]


def check(*rows):
    return [6] + told(joined(rows))


def search(grid, most):
    return [7, grid, most]


def escape(most):
    return [8, most]


def covered(row, *rows):
    return [9] + told(row) + told(joined(rows))


def ask(*calls):
    """The answers of these calls on one new house, a list for each."""
    given = answers(joined(calls))
    split = []
    place = 0
    while place < len(given):
        split.append(given[place + 1:place + 1 + given[place]])
        place += 1 + given[place]
    assert len(split) == len(calls)
    assert all(split)
    return split


def ask_last(*calls):
    return ask(*calls)[-1]


def built(text):
    """What build answers for a text."""
    return ask_last(build(text))


def printed(answer):
    """The text in what print answers."""
    assert answer[0] == 0
    return bytes(answer[1:]).decode("ascii")


def lines(*rows):
    return "".join(row + "\n" for row in rows)


def house_of(text):
    """The house that a right text tells."""
    house = read_house(list(text.encode()))[0]
    assert house is not None, text
    return house


def split_rows(numbers, width):
    assert len(numbers) % width == 0
    return [numbers[place:place + width] for place in range(0, len(numbers), width)]


def some_house(seed):
    """The text of a small house, another one for each seed, always the same for the same one."""
    picks = random.Random(seed)
    names = "abc"[:picks.choice((1, 1, 1, 2, 2, 3))]
    rows = []
    for name in names:
        first = picks.randint(-6, 6)
        low, high = first - picks.randint(0, 12), first + picks.randint(0, 12)
        rows.append(f"room {name} {picks.choice((6, 8, 10, 12))} {first} {low} {high}")
    pairs = [(one, other) for one in names for other in names if one < other and picks.random() < 0.6]
    rows += [f"link {one} {other} {picks.randint(1, 2)}" for one, other in pairs]
    for name in names[:picks.randint(0, 3)]:
        lo = picks.randint(-20, 10)
        rows.append(f"sky {name} {picks.randint(1, 2)} {lo} {lo + picks.randint(0, 12)}")
    for name in "st"[:picks.choice((0, 1, 1, 1, 2))]:
        on = picks.randint(-8, 6)
        rooms = f"{picks.choice(names)} {picks.randint(1, 60)} {picks.choice(names)}"
        times = f"{picks.choice((0, 0, 1, 2))} {picks.choice((0, 0, 1, 2))}"
        rows.append(f"stove {name} {rooms} {on} {on + picks.randint(1, 6)} {times}")
    return lines(*rows, f"error {picks.choice((0, 0, 1, 2))}", f"losses {picks.choice((0, 0, 0, 1, 2))}")


def inputs_in(house, answer):
    """The inputs that escape tells, each as weather, errors, losses."""
    assert answer[:2] == [0, 1]
    skies, stoves = len(house.skies), len(house.stoves)
    width = skies + 2 * stoves
    told = [answer[3 + width * turn:3 + width * (turn + 1)] for turn in range(answer[2])]
    assert len(answer) == 3 + width * answer[2]
    return [(one[:skies], one[skies:skies + stoves], one[skies + stoves:]) for one in told]


def plain_tick(house, temperatures, modes, weather, errors, losses):
    """A tick written down once more, by the document's words alone; None if the input isn't lawful."""
    after = []
    for stove, (wanted, timer, burning, lost), error, loss in zip(house.stoves, modes, errors, losses):
        if loss and lost >= house.losses:
            return None
        reading = temperatures[stove.sensor] + error
        if timer > 0:
            timer -= 1
        elif wanted and reading >= stove.off_at:
            wanted, timer = 0, stove.stay_off
        elif not wanted and reading <= stove.on_at:
            wanted, timer = 1, stove.stay_on
        after.append((wanted, timer, burning, lost + 1) if loss else (wanted, timer, wanted, 0))
    warmer = []
    for number, room in enumerate(house.rooms):
        here = temperatures[number]
        flow = sum(sky.conductance * (out - here) for sky, out in zip(house.skies, weather) if sky.room == number)
        flow += sum(stove.heat for stove, mode in zip(house.stoves, after) if stove.room == number and mode[2])
        for link in house.links:
            if number in (link.left, link.right):
                flow += link.conductance * (temperatures[link.left + link.right - number] - here)
        warmer.append((room.capacity * here + flow) // room.capacity)
    return (tuple(warmer), tuple(after))
