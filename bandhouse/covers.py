"""Lists of entries: their rows one right behind another, and what entries cover together."""

from bandhouse.boxes import Entry, entry_of, is_right_row, replaced, row_length

MOST_ENTRIES = 40
MOST_ALIKE = 8


def rows_in(house, numbers):
    """The rows of a list of whole rows."""
    width = row_length(house)
    return [numbers[place:place + width] for place in range(0, len(numbers), width)]


def are_right_rows(house, numbers):
    """Whether a list tells entries of this house, and no more than there may be."""
    width = row_length(house)
    # Where rows are empty, no list tells how many of them it has. A last row that is cut short isn't right.
    if width == 0 or len(numbers) > MOST_ENTRIES * width:
        return False
    return all([is_right_row(house, row) for row in rows_in(house, numbers)])


def entries_in(house, numbers):
    """The entries that a list of right rows tells."""
    return [entry_of(house, row) for row in rows_in(house, numbers)]


def entries_alike(entries, modes):
    """Those of the entries that have these modes."""
    return [entry for entry in entries if entry.modes == modes]


def are_too_many_alike(entries):
    """Whether more entries have the same modes than may."""
    return any([len(entries_alike(entries, entry.modes)) > MOST_ALIKE for entry in entries])


def have_common_states(piece, entry):
    """Whether two entries of the same modes have a state in common."""
    apart = [piece.leasts[room] > greatest for room, greatest in enumerate(entry.greatests)]
    apart = apart + [piece.greatests[room] < least for room, least in enumerate(entry.leasts)]
    return not any(apart)


def parts_outside(piece, entry):
    """What of a piece isn't in an entry of the same modes, as pieces."""
    if not have_common_states(piece, entry):
        return [piece]
    parts = []
    leasts = piece.leasts
    greatests = piece.greatests
    for room, least in enumerate(entry.leasts):
        greatest = entry.greatests[room]
        if leasts[room] < least:
            parts.append(Entry(piece.modes, leasts, replaced(greatests, room, least - 1)))
            leasts = replaced(leasts, room, least)
        if greatests[room] > greatest:
            parts.append(Entry(piece.modes, replaced(leasts, room, greatest + 1), greatests))
            greatests = replaced(greatests, room, greatest)
    return parts


def is_covered(entry, entries):
    """Whether each state in an entry is in one of the entries: nothing is left if they are cut out one by one."""
    pieces = [entry]
    for other in entries_alike(entries, entry.modes):
        left = []
        for piece in pieces:
            left.extend(parts_outside(piece, other))
        pieces = left
    return len(pieces) == 0
