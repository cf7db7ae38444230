"""Certificates: whether a list of entries is accepted, and the search for such a list."""

from bandhouse.boxes import Entry, posts_of
from bandhouse.covers import MOST_ALIKE, entries_alike, is_covered
from bandhouse.plan import first_state, in_band

# What there is against an entry, or against a whole list.
NOTHING = 0
NOT_WITHIN_BAND = 1
POST_NOT_COVERED = 2
FIRST_STATE_NOT_IN = 3

# How a search ends.
GOES_ON = 0
CERTIFICATE = 1
LEAVES_BAND = 2
TOO_MANY = 3


class Search:
    """A search: how it ended, the entries that were put, and the one by which it leaves the band."""

    def __init__(self, house, grid, most):
        self.house = house
        self.grid = grid
        self.most = most
        self.ended = GOES_ON
        self.entries = []
        self.left_by = None


def first_entry(house):
    """The entry of just the first state."""
    state = first_state(house)
    return Entry(state.modes, state.temperatures, state.temperatures)


def is_within_band(house, entry):
    """Whether all states in an entry are in the band."""
    return in_band(house, entry.leasts) and in_band(house, entry.greatests)


def reason_against_entry(house, entry, entries):
    """What there is against one of a list's entries."""
    if not is_within_band(house, entry):
        return NOT_WITHIN_BAND
    for post in posts_of(house, entry):
        if not is_covered(post, entries):
            return POST_NOT_COVERED
    return NOTHING


def fault_of(house, entries):
    """Why a list isn't accepted: an entry's number, or 0, and the reason; an empty list if it's accepted."""
    if not is_covered(first_entry(house), entries):
        return [0, FIRST_STATE_NOT_IN]
    for number, entry in enumerate(entries, start=1):
        reason = reason_against_entry(house, entry, entries)
        if reason != NOTHING:
            return [number, reason]
    return []


def widened_least(room, grid, least):
    """A room's least temperature at the grid, or at the end of the band; beyond the band it stays."""
    if least < room.low or least > room.high:
        return least
    return max(room.low, least // grid * grid)


def widened_greatest(room, grid, greatest):
    """A room's greatest temperature at the grid, or at the end of the band; beyond the band it stays."""
    if greatest < room.low or greatest > room.high:
        return greatest
    # Division rounds down, so the next multiple above is found below 0.
    return min(room.high, -(-greatest // grid * grid))


def widened(house, grid, entry):
    """An entry made wider, to the grid."""
    leasts = [widened_least(room, grid, least) for room, least in zip(house.rooms, entry.leasts)]
    greatests = [widened_greatest(room, grid, greatest) for room, greatest in zip(house.rooms, entry.greatests)]
    return Entry(entry.modes, tuple(leasts), tuple(greatests))


def is_full(search, modes):
    """Whether no further entry of these modes may be put."""
    return len(search.entries) >= search.most or len(entries_alike(search.entries, modes)) >= MOST_ALIKE


def put_entry(search, entry):
    """Put an entry, widened, unless it's covered; or end the search by it."""
    if is_covered(entry, search.entries):
        return
    wide = widened(search.house, search.grid, entry)
    if not is_within_band(search.house, wide):
        search.ended = LEAVES_BAND
        search.left_by = wide
    elif is_full(search, wide.modes):
        search.ended = TOO_MANY
    else:
        search.entries.append(wide)


def put_posts(search, entry):
    """Put an entry's posts, one after another, as long as the search goes on."""
    for post in posts_of(search.house, entry):
        if search.ended == GOES_ON:
            put_entry(search, post)


def search_ended(house, grid, most):
    """The search with a grid and at most so many entries, when it has ended."""
    search = Search(house, grid, most)
    put_entry(search, first_entry(house))
    # The entries stand in the order in which they were put, so going through them is going round by round.
    done = 0
    while search.ended == GOES_ON and done < len(search.entries):
        put_posts(search, search.entries[done])
        done += 1
    if search.ended == GOES_ON:
        search.ended = CERTIFICATE
    return search
