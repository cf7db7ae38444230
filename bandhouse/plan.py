"""What a house and its states are made of. Rooms, skies and stoves are told by their numbers, from 0."""

# The places of a mode's four numbers. A mode is a tuple, so that modes can be compared and be keys.
WANTED = 0
TIMER = 1
BURNING = 2
LOST = 3


class Room:
    """A room, and the band that it should stay in."""

    def __init__(self, name, capacity, first, low, high):
        self.name = name
        self.capacity = capacity
        self.first = first
        self.low = low
        self.high = high


class Link:
    """Two rooms between which heat flows; they stand as they were told."""

    def __init__(self, left, right, conductance):
        self.left = left
        self.right = right
        self.conductance = conductance


class Sky:
    """The weather at a room, between two ends."""

    def __init__(self, room, conductance, lo, hi):
        self.room = room
        self.conductance = conductance
        self.lo = lo
        self.hi = hi


class Stove:
    """A stove in a room, with the thermostat that reads a room's temperature for it."""

    def __init__(self, name, room, heat, sensor, on_at, off_at, stay_on, stay_off):
        self.name = name
        self.room = room
        self.heat = heat
        self.sensor = sensor
        self.on_at = on_at
        self.off_at = off_at
        self.stay_on = stay_on
        self.stay_off = stay_off


class House:
    """A house; at first without anything."""

    def __init__(self):
        self.rooms = []
        self.links = []
        self.skies = []
        self.stoves = []
        self.error = 0
        self.losses = 0


class State:
    """A temperature for each room and a mode for each stove, as tuples."""

    def __init__(self, temperatures, modes):
        self.temperatures = temperatures
        self.modes = modes


def first_state(house):
    """The state in which a house begins."""
    temperatures = tuple([room.first for room in house.rooms])
    modes = tuple([(0, 0, 0, 0) for stove in house.stoves])
    return State(temperatures, modes)


def in_band(house, temperatures):
    """Whether each room's temperature is within its band."""
    return all([room.low <= here <= room.high for room, here in zip(house.rooms, temperatures)])


def mode_numbers(modes):
    """The numbers of all modes, one right behind another."""
    numbers = []
    for mode in modes:
        numbers.extend(mode)
    return numbers


def room_number(house, name):
    """The number of the room of this name; -1 if it isn't there."""
    for number, room in enumerate(house.rooms):
        if room.name == name:
            return number
    return -1


def conductance_around(house, number):
    """The conductances of a room's links and skies together."""
    links = [link.conductance for link in house.links if number in (link.left, link.right)]
    skies = [sky.conductance for sky in house.skies if sky.room == number]
    return sum(links) + sum(skies)


def first_unsteady(house):
    """The number of the first room that isn't steady; -1 if all are."""
    for number, room in enumerate(house.rooms):
        if conductance_around(house, number) > room.capacity:
            return number
    return -1
