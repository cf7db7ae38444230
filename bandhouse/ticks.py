"""A tick: the thermostats, then the messages, then the temperatures."""

from bandhouse.plan import BURNING, LOST, TIMER, WANTED, State


class TickInput:
    """What comes in a tick: a temperature for each sky; an error and a loss for each stove."""

    def __init__(self, weather, errors, losses):
        self.weather = weather
        self.errors = errors
        self.losses = losses


def is_as_long(house, given):
    """Whether an input has just the numbers that the house asks for."""
    stoves = len(house.stoves)
    return len(given.weather) == len(house.skies) and len(given.errors) == stoves and len(given.losses) == stoves


def may_be_lost(house, mode):
    """Whether the next message to a stove may be lost."""
    return mode[LOST] < house.losses


def is_lawful_loss(house, mode, loss):
    """Whether a message may come or be lost as told."""
    return loss == 0 or (loss == 1 and may_be_lost(house, mode))


def is_lawful(house, modes, given):
    """Whether an input may come where the stoves have these modes."""
    if not is_as_long(house, given):
        return False
    skies = [sky.lo <= here <= sky.hi for sky, here in zip(house.skies, given.weather)]
    errors = [abs(error) <= house.error for error in given.errors]
    losses = [is_lawful_loss(house, mode, loss) for mode, loss in zip(modes, given.losses)]
    return all(skies) and all(errors) and all(losses)


def timer_run(mode):
    """The mode with one tick less to wait."""
    return (mode[WANTED], mode[TIMER] - 1, mode[BURNING], mode[LOST])


def wish_changed(mode, wanted, timer):
    """The mode after its thermostat has switched."""
    return (wanted, timer, mode[BURNING], mode[LOST])


def message_come(mode):
    """The mode after its message has come."""
    return (mode[WANTED], mode[TIMER], mode[WANTED], 0)


def message_lost(mode):
    """The mode after its message was lost."""
    return (mode[WANTED], mode[TIMER], mode[BURNING], mode[LOST] + 1)


def thermostat_read(stove, mode, reading):
    """The mode after its thermostat's turn."""
    if mode[TIMER] > 0:
        return timer_run(mode)
    if mode[WANTED] == 1 and reading >= stove.off_at:
        return wish_changed(mode, 0, stove.stay_off)
    if mode[WANTED] == 0 and reading <= stove.on_at:
        return wish_changed(mode, 1, stove.stay_on)
    return mode


def mode_after(stove, mode, reading, loss):
    """The mode after its thermostat's turn and its message."""
    read = thermostat_read(stove, mode, reading)
    return message_lost(read) if loss == 1 else message_come(read)


def modes_after(house, state, given):
    """All stoves' modes after a tick."""
    modes = []
    for number, stove in enumerate(house.stoves):
        reading = state.temperatures[stove.sensor] + given.errors[number]
        modes.append(mode_after(stove, state.modes[number], reading, given.losses[number]))
    return tuple(modes)


def heat_by_links(house, number, temperatures):
    """What flows into a room through its links."""
    flow = 0
    for link in house.links:
        if link.left == number:
            flow += link.conductance * (temperatures[link.right] - temperatures[number])
        if link.right == number:
            flow += link.conductance * (temperatures[link.left] - temperatures[number])
    return flow


def heat_by_skies(house, number, temperatures, weather):
    """What flows into a room from its skies."""
    flow = 0
    for sky, outside in zip(house.skies, weather):
        if sky.room == number:
            flow += sky.conductance * (outside - temperatures[number])
    return flow


def heat_by_stoves(house, number, modes):
    """The heat of a room's stoves that are on."""
    heat = 0
    for stove, mode in zip(house.stoves, modes):
        if stove.room == number and mode[BURNING] == 1:
            heat += stove.heat
    return heat


def temperature_after(house, number, temperatures, weather, modes):
    """A room's temperature after a tick that led to these modes."""
    flow = heat_by_links(house, number, temperatures)
    flow += heat_by_skies(house, number, temperatures, weather)
    flow += heat_by_stoves(house, number, modes)
    capacity = house.rooms[number].capacity
    # This division rounds down below 0 too, as is asked for.
    return (capacity * temperatures[number] + flow) // capacity


def temperatures_after(house, temperatures, weather, modes):
    """All rooms' temperatures after a tick that led to these modes; each is made from those before it."""
    after = []
    for number in range(len(house.rooms)):
        after.append(temperature_after(house, number, temperatures, weather, modes))
    return tuple(after)


def state_after(house, state, given):
    """The state to which a lawful input leads in a tick."""
    modes = modes_after(house, state, given)
    return State(temperatures_after(house, state.temperatures, given.weather, modes), modes)
