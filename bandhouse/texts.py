"""A house's text, read line by line."""

from bandhouse.plan import House, Link, Room, Sky, Stove, first_unsteady, room_number

SIGNS = "\n -0123456789abcdefghijklmnopqrstuvwxyz"
NO_SIGN = "?"

LONGEST_NAME = 12
MOST_DIGITS = 7

# What stands behind each first word: a new name, a known room's name, or a number by its range.
FORMS = {
    "room": ("new", "capacity", "temperature", "temperature", "temperature"),
    "link": ("known", "known", "conductance"),
    "sky": ("known", "conductance", "temperature", "temperature"),
    "stove": ("new", "known", "heat", "known", "temperature", "temperature", "stay", "stay"),
    "error": ("error",),
    "losses": ("losses",),
}

RANGES = {
    "capacity": (1, 1000),
    "conductance": (1, 1000),
    "temperature": (-100000, 100000),
    "heat": (1, 1000000),
    "stay": (0, 20),
    "error": (0, 1000),
    "losses": (0, 3),
}

MOST_ROOMS = 3
MOST_LINKS = 3
MOST_SKIES = 4
MOST_STOVES = 2

# Why a line, or a room, is wrong.
RIGHT = 0
NO_FORM = 1
NAME_IS_THERE = 2
ROOM_IS_NOT_THERE = 3
AS_MANY_ALREADY = 4
CAN_NOT_BE = 5
NOT_STEADY = 6


def text_of(numbers):
    """The bytes as a text; a byte that may stand in no line becomes a sign that may stand in none."""
    signs = dict([(ord(sign), sign) for sign in SIGNS])
    return "".join([signs.get(number, NO_SIGN) for number in numbers])


def is_name(word):
    """Whether a word is of a name's form; text_of leaves no letters but the small ones."""
    return 1 <= len(word) <= LONGEST_NAME and word[0].isalpha() and word.isalnum()


def is_number(word):
    """Whether a word is of a number's form, whatever its range."""
    digits = word[1:] if word.startswith("-") else word
    if not digits.isdigit() or len(digits) > MOST_DIGITS:
        return False
    # A 0 leads only the word "0": neither zeros in front nor -0 are numbers.
    return not digits.startswith("0") or word == "0"


def fits(kind, word):
    """Whether a word may stand in a place of this kind."""
    if kind not in RANGES:
        return is_name(word)
    if not is_number(word):
        return False
    ends = RANGES[kind]
    return ends[0] <= int(word) <= ends[1]


def has_form(words):
    """Whether a line's words are of a form, with each number in its range."""
    form = FORMS.get(words[0])
    if form is None or len(words) != len(form) + 1:
        return False
    return all([fits(kind, word) for kind, word in zip(form, words[1:])])


def value_of(house, kind, word):
    """What a word stands for: a name, a room's number (-1 if it isn't there), or a number."""
    if kind == "new":
        return word
    if kind == "known":
        return room_number(house, word)
    return int(word)


def values_of(house, words):
    """What the words behind the first one stand for, of a line that has a form."""
    return [value_of(house, kind, word) for kind, word in zip(FORMS[words[0]], words[1:])]


def is_taken(house, name):
    """Whether a room or a stove has this name."""
    names = [room.name for room in house.rooms] + [stove.name for stove in house.stoves]
    return name in names


def tells_taken_name(house, words, values):
    """Whether the name that a line tells anew is there."""
    return FORMS[words[0]][0] == "new" and is_taken(house, values[0])


def lacks_room(words, values):
    """Whether one of the rooms that a line names isn't there."""
    rooms = [value for kind, value in zip(FORMS[words[0]], values) if kind == "known"]
    return -1 in rooms


def is_full(house, first_word):
    """Whether there are as many of this already as there may be."""
    if first_word == "room":
        return len(house.rooms) >= MOST_ROOMS
    if first_word == "link":
        return len(house.links) >= MOST_LINKS
    if first_word == "sky":
        return len(house.skies) >= MOST_SKIES
    if first_word == "stove":
        return len(house.stoves) >= MOST_STOVES
    return False


def are_linked(house, left, right):
    """Whether two rooms are linked, whichever was told first."""
    pairs = [(link.left, link.right) for link in house.links]
    return (left, right) in pairs or (right, left) in pairs


def can_be(house, first_word, values):
    """Whether a line's values go with one another and with the house."""
    if first_word == "room":
        return values[3] <= values[2] <= values[4]
    if first_word == "link":
        return values[0] != values[1] and not are_linked(house, values[0], values[1])
    if first_word == "sky":
        return values[2] <= values[3]
    if first_word == "stove":
        return values[4] < values[5]
    return True


def reason_against(house, words):
    """Why a line is wrong, of several reasons the first; RIGHT if it isn't."""
    if not has_form(words):
        return NO_FORM
    values = values_of(house, words)
    if tells_taken_name(house, words, values):
        return NAME_IS_THERE
    if lacks_room(words, values):
        return ROOM_IS_NOT_THERE
    if is_full(house, words[0]):
        return AS_MANY_ALREADY
    if not can_be(house, words[0], values):
        return CAN_NOT_BE
    return RIGHT


def stove_of(values):
    """The stove that a line's values tell."""
    return Stove(values[0], values[1], values[2], values[3], values[4], values[5], values[6], values[7])


def put_line(house, first_word, values):
    """Put what a right line tells into the house."""
    if first_word == "room":
        house.rooms.append(Room(values[0], values[1], values[2], values[3], values[4]))
    elif first_word == "link":
        house.links.append(Link(values[0], values[1], values[2]))
    elif first_word == "sky":
        house.skies.append(Sky(values[0], values[1], values[2], values[3]))
    elif first_word == "stove":
        house.stoves.append(stove_of(values))
    elif first_word == "error":
        house.error = values[0]
    else:
        house.losses = values[0]


def read_house(numbers):
    """A house, 0 and RIGHT; or None, which line (or room) is wrong, from 1, and why."""
    lines = text_of(numbers).split("\n")
    # A text that is ended by a byte 10 leaves an empty piece behind it, and so does an empty text.
    if lines[-1] != "":
        return (None, len(lines), NO_FORM)
    house = House()
    for number, line in enumerate(lines[:-1], start=1):
        words = line.split(" ")
        reason = reason_against(house, words)
        if reason != RIGHT:
            return (None, number, reason)
        put_line(house, words[0], values_of(house, words))
    unsteady = first_unsteady(house)
    if unsteady >= 0:
        return (None, unsteady + 1, NOT_STEADY)
    return (house, 0, RIGHT)
