"""A house that's called: each call's answer, and what is kept between the calls."""

from bandhouse.boxes import entry_of, is_right_row, posts_of, row_of
from bandhouse.plan import House, first_state, in_band, mode_numbers
from bandhouse.printed import printed_house
from bandhouse.reader import read_calls
from bandhouse.texts import RIGHT, read_house
from bandhouse.ticks import TickInput, is_lawful, state_after

BUILD = 0
PRINT = 1
BEGIN = 2
TICK = 3
NOW = 4
POSTS = 5

NOT_IN_RANGE = -2
NOT_LAWFUL = -3


class NoSuchCall(ValueError):
    """A call that the program doesn't answer."""


class Session:
    """The house, its state, and how many ticks were made since build or begin."""

    def __init__(self):
        self.house = House()
        self.state = first_state(self.house)
        self.ticks = 0


def start_again(session):
    """Go back to the house's first state."""
    session.state = first_state(session.house)
    session.ticks = 0


def state_numbers(session):
    """Whether the state is in the band, its temperatures and its modes' numbers."""
    state = session.state
    inside = 1 if in_band(session.house, state.temperatures) else 0
    return [inside] + list(state.temperatures) + mode_numbers(state.modes)


def answer_build(session, text):
    """Build the house that a text tells, unless it is wrong."""
    outcome = read_house(text)
    if outcome[2] != RIGHT:
        return [1, outcome[1], outcome[2]]
    house = outcome[0]
    session.house = house
    start_again(session)
    return [0, len(house.rooms), len(house.links), len(house.skies), len(house.stoves)]


def answer_begin(session):
    """Begin again with the same house."""
    start_again(session)
    return [0]


def answer_tick(session, given):
    """Make a tick, if the input is lawful."""
    if not is_lawful(session.house, session.state.modes, given):
        return [NOT_LAWFUL]
    session.state = state_after(session.house, session.state, given)
    session.ticks += 1
    return [0] + state_numbers(session)


def answer_posts(house, row):
    """The posts of the entry that a row tells."""
    if not is_right_row(house, row):
        return [NOT_IN_RANGE]
    posts = posts_of(house, entry_of(house, row))
    answer = [0, len(posts)]
    for post in posts:
        answer.extend(row_of(post))
    return answer


def answer_call(session, call):
    """What a call answers."""
    if call.number == BUILD:
        return answer_build(session, call.rows[0])
    if call.number == PRINT:
        return [0] + printed_house(session.house)
    if call.number == BEGIN:
        return answer_begin(session)
    if call.number == TICK:
        return answer_tick(session, TickInput(call.rows[0], call.rows[1], call.rows[2]))
    if call.number == NOW:
        return [0, session.ticks] + state_numbers(session)
    if call.number == POSTS:
        return answer_posts(session.house, call.rows[0])
    raise NoSuchCall(str(call.number))


def answers(calls):
    """For each call, in order, how many numbers are answered, and these."""
    session = Session()
    given_back = []
    for call in read_calls(calls):
        answer = answer_call(session, call)
        given_back.append(len(answer))
        given_back.extend(answer)
    return given_back
