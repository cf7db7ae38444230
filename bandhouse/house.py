"""A house that's called: each call's answer, and what is kept between the calls."""

from bandhouse.boxes import entry_of, is_right_row, posts_of, row_of
from bandhouse.certificates import CERTIFICATE, LEAVES_BAND, fault_of, search_ended
from bandhouse.covers import are_right_rows, are_too_many_alike, entries_in, is_covered
from bandhouse.escapes import escape_within
from bandhouse.plan import House, first_state, in_band, mode_numbers
from bandhouse.printed import printed_house
from bandhouse.reader import read_calls
from bandhouse.texts import RIGHT, read_house
from bandhouse.ticks import TickInput, is_lawful, state_after

BUILD = 0
PRINT = 1
BEGIN = 2
TICK = 3
NOW = 4
POSTS = 5
CHECK = 6
SEARCH = 7
ESCAPE = 8
COVERED = 9

NOT_IN_RANGE = -2
NOT_LAWFUL = -3
TOO_MANY_ALIKE = -4

COARSEST_GRID = 1000
MOST_SEARCHED = 40
MOST_ESCAPE_TICKS = 12


class Session:
    """The house, its state, and how many ticks were made since build or begin."""

    def __init__(self):
        self.house = House()
        self.state = first_state(self.house)
        self.ticks = 0


def start_again(session):
    """Go back to the house's first state."""
    session.state = first_state(session.house)
    session.ticks = 0


def state_numbers(session):
    """Whether the state is in the band, its temperatures and its modes' numbers."""
    state = session.state
    inside = 1 if in_band(session.house, state.temperatures) else 0
    return [inside] + list(state.temperatures) + mode_numbers(state.modes)


def answer_build(session, text):
    """Build the house that a text tells, unless it is wrong."""
    outcome = read_house(text)
    if outcome[2] != RIGHT:
        return [1, outcome[1], outcome[2]]
    house = outcome[0]
    session.house = house
    start_again(session)
    return [0, len(house.rooms), len(house.links), len(house.skies), len(house.stoves)]


def answer_begin(session):
    """Begin again with the same house."""
    start_again(session)
    return [0]


def answer_tick(session, given):
    """Make a tick, if the input is lawful."""
    if not is_lawful(session.house, session.state.modes, given):
        return [NOT_LAWFUL]
    session.state = state_after(session.house, session.state, given)
    session.ticks += 1
    return [0] + state_numbers(session)


def rows_behind(entries):
    """The rows of entries, one right behind another."""
    numbers = []
    for entry in entries:
        numbers.extend(row_of(entry))
    return numbers


def answer_posts(house, row):
    """The posts of the entry that a row tells."""
    if not is_right_row(house, row):
        return [NOT_IN_RANGE]
    posts = posts_of(house, entry_of(house, row))
    return [0, len(posts)] + rows_behind(posts)


def answer_check(house, numbers):
    """Whether a list of entries is accepted as a certificate, and why not."""
    if not are_right_rows(house, numbers):
        return [NOT_IN_RANGE]
    entries = entries_in(house, numbers)
    if are_too_many_alike(entries):
        return [TOO_MANY_ALIKE]
    fault = fault_of(house, entries)
    return [0, 0] + fault if fault else [0, 1]


def answer_search(house, grid, most):
    """How the search for a certificate ends, and the certificate or the entry by which it leaves the band."""
    if not 1 <= grid <= COARSEST_GRID or not 1 <= most <= MOST_SEARCHED:
        return [NOT_IN_RANGE]
    search = search_ended(house, grid, most)
    if search.ended == CERTIFICATE:
        return [0, search.ended, len(search.entries)] + rows_behind(search.entries)
    if search.ended == LEAVES_BAND:
        return [0, search.ended] + row_of(search.left_by)
    return [0, search.ended]


def answer_escape(house, most):
    """A run that leaves the band, input by input, if one is found."""
    if not 0 <= most <= MOST_ESCAPE_TICKS:
        return [NOT_IN_RANGE]
    found = escape_within(house, most)
    if found is None:
        return [0, 0]
    answer = [0, 1, len(found.inputs)]
    for given in found.inputs:
        answer.extend(given.weather + given.errors + given.losses)
    return answer


def answer_covered(house, row, numbers):
    """Whether the entry that a row tells is covered by those of a list."""
    if not is_right_row(house, row) or not are_right_rows(house, numbers):
        return [NOT_IN_RANGE]
    entries = entries_in(house, numbers)
    if are_too_many_alike(entries):
        return [TOO_MANY_ALIKE]
    return [0, 1] if is_covered(entry_of(house, row), entries) else [0, 0]


def answer_bounds(house):
    """What bounds the inputs and the temperatures."""
    answer = [0, house.error, house.losses]
    for room in house.rooms:
        answer.extend([room.low, room.high])
    for sky in house.skies:
        answer.extend([sky.lo, sky.hi])
    return answer


def answer_call(session, call):
    """What a call answers."""
    if call.number == BUILD:
        return answer_build(session, call.rows[0])
    if call.number == PRINT:
        return [0] + printed_house(session.house)
    if call.number == BEGIN:
        return answer_begin(session)
    if call.number == TICK:
        return answer_tick(session, TickInput(call.rows[0], call.rows[1], call.rows[2]))
    if call.number == NOW:
        return [0, session.ticks] + state_numbers(session)
    if call.number == POSTS:
        return answer_posts(session.house, call.rows[0])
    if call.number == CHECK:
        return answer_check(session.house, call.rows[0])
    if call.number == SEARCH:
        return answer_search(session.house, call.numbers[0], call.numbers[1])
    if call.number == ESCAPE:
        return answer_escape(session.house, call.numbers[0])
    if call.number == COVERED:
        return answer_covered(session.house, call.rows[0], call.rows[1])
    # The reader lets through no numbers but those of calls.
    return answer_bounds(session.house)


def answers(calls):
    """For each call, in order, how many numbers are answered, and these."""
    session = Session()
    given_back = []
    for call in read_calls(calls):
        answer = answer_call(session, call)
        given_back.append(len(answer))
        given_back.extend(answer)
    return given_back
