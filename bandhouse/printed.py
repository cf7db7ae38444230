"""A house printed, as a text that gives the same house again."""


def line_of(words):
    """A line of these words and numbers."""
    return " ".join([str(word) for word in words]) + "\n"


def room_line(room):
    """The line that tells a room."""
    return line_of(["room", room.name, room.capacity, room.first, room.low, room.high])


def link_line(house, link):
    """The line that tells a link."""
    return line_of(["link", house.rooms[link.left].name, house.rooms[link.right].name, link.conductance])


def sky_line(house, sky):
    """The line that tells a sky."""
    return line_of(["sky", house.rooms[sky.room].name, sky.conductance, sky.lo, sky.hi])


def stove_line(house, stove):
    """The line that tells a stove."""
    place = [stove.name, house.rooms[stove.room].name, stove.heat]
    thermostat = [house.rooms[stove.sensor].name, stove.on_at, stove.off_at, stove.stay_on, stove.stay_off]
    return line_of(["stove"] + place + thermostat)


def printed_house(house):
    """The bytes of the house printed."""
    lines = [room_line(room) for room in house.rooms]
    lines = lines + [link_line(house, link) for link in house.links]
    lines = lines + [sky_line(house, sky) for sky in house.skies]
    lines = lines + [stove_line(house, stove) for stove in house.stoves]
    lines = lines + [line_of(["error", house.error]), line_of(["losses", house.losses])]
    return [ord(sign) for sign in "".join(lines)]
