"""Escapes: runs by extreme inputs, looked through for one that leaves the band."""

from bandhouse.plan import first_state, in_band
from bandhouse.ticks import TickInput, may_be_lost, state_after

MOST_STATES = 400


class Run:
    """The inputs of a run from the first state, as a tuple, and the state to which they lead."""

    def __init__(self, inputs, state):
        self.inputs = inputs
        self.state = state


def ways_together(ways_of_each):
    """All stoves' ways together: for each way of the second stove all of the first."""
    together = [()]
    for ways in ways_of_each:
        further = []
        for way in ways:
            further.extend([before + (way,) for before in together])
        together = further
    return together


def extreme_weathers(house):
    """All skies at their lo, then all at their hi."""
    return [tuple([sky.lo for sky in house.skies]), tuple([sky.hi for sky in house.skies])]


def extreme_errors(house):
    """The errors of all readings, each at one of its ends."""
    ways = [0] if house.error == 0 else [-house.error, house.error]
    return ways_together([ways for stove in house.stoves])


def possible_losses(house, modes):
    """Which messages are lost, each where it may be."""
    return ways_together([[0, 1] if may_be_lost(house, mode) else [0] for mode in modes])


def extreme_inputs(house, modes):
    """The extreme inputs where the stoves have these modes, in order."""
    inputs = []
    all_losses = possible_losses(house, modes)
    for weather in extreme_weathers(house):
        for errors in extreme_errors(house):
            inputs.extend([TickInput(weather, errors, losses) for losses in all_losses])
    return inputs


def key_of(state):
    """What tells a state from others."""
    return (state.temperatures, state.modes)


def longer_runs(house, runs, come_to):
    """The runs that are longer by a tick, but those to a state that was come to; theirs are noted as come to."""
    longer = []
    for run in runs:
        for given in extreme_inputs(house, run.state.modes):
            state = state_after(house, run.state, given)
            if key_of(state) not in come_to:
                come_to[key_of(state)] = True
                longer.append(Run(run.inputs + (given,), state))
    return longer


def first_outside(house, runs):
    """The first of the runs whose last state isn't in the band; None if there's none."""
    for run in runs:
        if not in_band(house, run.state.temperatures):
            return run
    return None


def escape_within(house, most):
    """The first run of at most so many ticks that leaves the band; None if none is found."""
    runs = [Run((), first_state(house))]
    come_to = {key_of(first_state(house)): True}
    found = first_outside(house, runs)
    ticks = 0
    while found is None and ticks < most and len(come_to) <= MOST_STATES:
        runs = longer_runs(house, runs, come_to)
        found = first_outside(house, runs)
        ticks += 1
    return found
