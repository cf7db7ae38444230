"""Entries: boxes of temperatures by modes, their rows and their posts."""

from bandhouse.plan import BURNING, LOST, TIMER, WANTED, mode_numbers
from bandhouse.ticks import may_be_lost, message_come, message_lost, temperatures_after, timer_run, wish_changed

MODE_NUMBERS = 4
LONGEST_TIMER = 20
MOST_TEMPERATURE = 100000


class Entry:
    """A mode for each stove, and for each room a least and a greatest temperature, as tuples."""

    def __init__(self, modes, leasts, greatests):
        self.modes = modes
        self.leasts = leasts
        self.greatests = greatests


def row_length(house):
    """How many numbers the row of an entry has."""
    return MODE_NUMBERS * len(house.stoves) + 2 * len(house.rooms)


def entry_of(house, row):
    """The entry that a row tells, of a row that's just as long."""
    modes = []
    for number in range(len(house.stoves)):
        modes.append(tuple(row[MODE_NUMBERS * number:MODE_NUMBERS * number + MODE_NUMBERS]))
    ends = row[MODE_NUMBERS * len(house.stoves):]
    return Entry(tuple(modes), tuple(ends[0::2]), tuple(ends[1::2]))


def row_of(entry):
    """The row that tells an entry."""
    row = mode_numbers(entry.modes)
    for least, greatest in zip(entry.leasts, entry.greatests):
        row.extend([least, greatest])
    return row


def is_right_mode(house, mode):
    """Whether each of a mode's numbers may be."""
    if mode[WANTED] not in (0, 1) or mode[BURNING] not in (0, 1):
        return False
    return 0 <= mode[TIMER] <= LONGEST_TIMER and 0 <= mode[LOST] <= house.losses


def is_right_side(least, greatest):
    """Whether a room's least and greatest temperature may be."""
    return -MOST_TEMPERATURE <= least <= greatest <= MOST_TEMPERATURE


def is_right_row(house, row):
    """Whether a row tells an entry of this house."""
    if len(row) != row_length(house):
        return False
    entry = entry_of(house, row)
    modes = [is_right_mode(house, mode) for mode in entry.modes]
    sides = [is_right_side(least, greatest) for least, greatest in zip(entry.leasts, entry.greatests)]
    return all(modes) and all(sides)


def replaced(values, place, value):
    """The tuple with another value in one place."""
    return values[:place] + (value,) + values[place + 1:]


def cut_to(house, entry, number, mode, least, greatest):
    """A stove's way to a mode from those temperatures of its sensor's room: a list of the cut entry, or of none."""
    room = house.stoves[number].sensor
    lowest = max(least, entry.leasts[room])
    highest = min(greatest, entry.greatests[room])
    if lowest > highest:
        return []
    modes = replaced(entry.modes, number, mode)
    return [Entry(modes, replaced(entry.leasts, room, lowest), replaced(entry.greatests, room, highest))]


def thermostat_ways(house, entry, number):
    """The ways of one stove's thermostat, in order, each as the entry cut to it."""
    stove = house.stoves[number]
    mode = entry.modes[number]
    least = entry.leasts[stove.sensor]
    greatest = entry.greatests[stove.sensor]
    if mode[TIMER] > 0:
        return cut_to(house, entry, number, timer_run(mode), least, greatest)
    if mode[WANTED] == 1:
        changed = wish_changed(mode, 0, stove.stay_off)
        first = cut_to(house, entry, number, changed, stove.off_at - house.error, greatest)
        second = cut_to(house, entry, number, mode, least, stove.off_at + house.error - 1)
    else:
        changed = wish_changed(mode, 1, stove.stay_on)
        first = cut_to(house, entry, number, changed, least, stove.on_at + house.error)
        second = cut_to(house, entry, number, mode, stove.on_at - house.error + 1, greatest)
    return first + second


def cuts_of(house, entry):
    """The ways of all thermostats together: for each way of the first stove all of the second."""
    cuts = [entry]
    for number in range(len(house.stoves)):
        further = []
        for cut in cuts:
            further.extend(thermostat_ways(house, cut, number))
        cuts = further
    return cuts


def message_ways(house, mode):
    """The modes after one stove's message: it comes, and then, where it may be, it's lost."""
    if may_be_lost(house, mode):
        return [message_come(mode), message_lost(mode)]
    return [message_come(mode)]


def modes_by_messages(house, modes):
    """The modes after all messages: for each way of the first stove all of the second."""
    begun = [()]
    for mode in modes:
        further = []
        for before in begun:
            further.extend([before + (after,) for after in message_ways(house, mode)])
        begun = further
    return begun


def post_of(house, cut, modes):
    """The post of a cut entry for these modes: its corners by the two ends of the weather."""
    coldest = [sky.lo for sky in house.skies]
    warmest = [sky.hi for sky in house.skies]
    leasts = temperatures_after(house, cut.leasts, coldest, modes)
    greatests = temperatures_after(house, cut.greatests, warmest, modes)
    return Entry(modes, leasts, greatests)


def posts_of(house, entry):
    """The posts of an entry, in order."""
    posts = []
    for cut in cuts_of(house, entry):
        posts.extend([post_of(house, cut, modes) for modes in modes_by_messages(house, cut.modes)])
    return posts
