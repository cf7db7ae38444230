import itertools
import unittest

from bandhouse.boxes import Entry, posts_of, row_of
from tests.helper import (
    BEGIN, BOUNDS, NOW, PRINT, ask, ask_last, build, check, house_of, joined, lines, search, some_house, split_rows, tick,
)


def searched(text, grid, most=40):
    return ask_last(build(text), search(grid, most))


def rows_found(text, grid, most=40):
    """The rows of the certificate that a search finds."""
    answer = searched(text, grid, most)
    assert answer[:2] == [0, 1], answer
    rows = split_rows(answer[3:], (len(answer) - 3) // answer[2])
    assert len(rows) == answer[2]
    return rows


def states_in(entry):
    boxes = [range(least, greatest + 1) for least, greatest in zip(entry.leasts, entry.greatests)]
    return {(entry.modes, temperatures) for temperatures in itertools.product(*boxes)}


def next_below(grid, number):
    while number % grid:
        number -= 1
    return number


def next_above(grid, number):
    while number % grid:
        number += 1
    return number


def plain_widened(house, grid, entry):
    sides = []
    for room, least, greatest in zip(house.rooms, entry.leasts, entry.greatests):
        if room.low <= least <= room.high:
            least = max(room.low, next_below(grid, least))
        if room.low <= greatest <= room.high:
            greatest = min(room.high, next_above(grid, greatest))
        sides.append((least, greatest))
    return Entry(entry.modes, tuple(side[0] for side in sides), tuple(side[1] for side in sides))


def plain_search(house, grid, most):
    """What search should answer, reckoned state by state and round by round."""
    first = tuple(room.first for room in house.rooms)
    due = [Entry(((0, 0, 0, 0),) * len(house.stoves), first, first)]
    entries = []
    covered = set()
    while due:
        put = []
        for entry in due:
            if states_in(entry) <= covered:
                continue
            wide = plain_widened(house, grid, entry)
            for room, least, greatest in zip(house.rooms, wide.leasts, wide.greatests):
                if least < room.low or greatest > room.high:
                    return [0, 2] + row_of(wide)
            if len(entries) == most or len([one for one in entries if one.modes == wide.modes]) == 8:
                return [0, 3]
            entries.append(wide)
            put.append(wide)
            covered |= states_in(wide)
        due = [post for entry in put for post in posts_of(house, entry)]
    return [0, 1, len(entries)] + joined([row_of(entry) for entry in entries])


# The room has just the temperature that was outside.
OUTSIDE = lines("room a 10 {} {} {}", "sky a 10 {} {}")


class Certificates(unittest.TestCase):
    def test_two_rounds(self):
        text = OUTSIDE.format(5, 0, 9, 2, 7)
        self.assertEqual(searched(text, 1), [0, 1, 2, 5, 5, 2, 7])
        self.assertEqual(searched(text, 2), [0, 1, 2, 4, 6, 2, 8])
        self.assertEqual(searched(text, 3), [0, 1, 2, 3, 6, 0, 9])

    def test_one_entry(self):
        self.assertEqual(searched(OUTSIDE.format(5, 0, 9, 2, 7), 10), [0, 1, 1, 0, 9])
        self.assertEqual(searched(OUTSIDE.format(5, 0, 9, 5, 5), 1), [0, 1, 1, 5, 5])
        self.assertEqual(searched("room a 1 0 0 0\n", 1), [0, 1, 1, 0, 0])

    def test_a_stove(self):
        text = lines("room a 10 15 0 30", "sky a 10 10 20", "stove s a 10 a 12 18 0 0")
        off, on = [0, 0, 0, 0], [1, 0, 1, 0]
        self.assertEqual(rows_found(text, 5), [off + [15, 15], off + [10, 20], on + [10, 25]])
        self.assertEqual(rows_found(text, 1), [off + [15, 15], off + [10, 20], on + [11, 21]])
        self.assertEqual(rows_found(text, 30), [off + [0, 30], on + [0, 30]])

    def test_the_order_of_the_posts(self):
        # Both ways of the thermostat, each with its message come and lost.
        text = lines("room a 10 15 0 30", "sky a 10 10 20", "stove s a 10 a 15 18 0 0", "error 1", "losses 1")
        modes = [row[:4] for row in rows_found(text, 30)]
        self.assertEqual(modes, [[0, 0, 0, 0], [1, 0, 1, 0], [1, 0, 0, 1], [0, 0, 0, 1], [0, 0, 1, 1], [1, 0, 1, 1]])

    def test_covered_by_several_together(self):
        # In the end none of the entries alone covers the posts of the last one.
        text = lines("room a 10 0 -9 9", "room b 10 0 -9 9", "link a b 4", "sky a 2 -9 9")
        answer = searched(text, 4)
        self.assertEqual(answer, plain_search(house_of(text), 4, 40))
        self.assertEqual(answer[:2], [0, 1])

    def test_a_house_without_anything(self):
        for grid, most in ((1, 1), (1, 40), (1000, 1), (1000, 40)):
            self.assertEqual(ask_last(search(grid, most)), [0, 1, 1])
            self.assertEqual(ask_last(build("error 5\nlosses 3\n"), search(grid, most)), [0, 1, 1])

    def test_rooms_alone(self):
        text = lines("room a 9 5 0 9", "room b 9 -5 -9 0")
        self.assertEqual(searched(text, 1), [0, 1, 1, 5, 5, -5, -5])
        self.assertEqual(searched(text, 4), [0, 1, 1, 4, 8, -8, -4])


class Widening(unittest.TestCase):
    def widened_first(self, first, grid, low=-100, high=100):
        answer = searched(f"room a 1 {first} {low} {high}\n", grid)
        self.assertEqual(answer[:3], [0, 1, 1])
        return answer[3:]

    def test_at_and_beside_multiples(self):
        for first, sides in ((0, [0, 0]), (1, [0, 5]), (4, [0, 5]), (5, [5, 5]), (6, [5, 10]), (9, [5, 10]), (10, [10, 10])):
            self.assertEqual(self.widened_first(first, 5), sides)

    def test_below_0(self):
        for first, sides in ((-1, [-5, 0]), (-4, [-5, 0]), (-5, [-5, -5]), (-6, [-10, -5]), (-9, [-10, -5])):
            self.assertEqual(self.widened_first(first, 5), sides)

    def test_a_grid_of_1(self):
        for first in (-100, -99, -1, 0, 1, 99, 100):
            self.assertEqual(self.widened_first(first, 1), [first, first])

    def test_a_grid_of_1000(self):
        for first, sides in ((0, [0, 0]), (1, [0, 1000]), (-1, [-1000, 0]), (1000, [1000, 1000]), (999, [0, 1000]), (-1001, [-2000, -1000])):
            self.assertEqual(self.widened_first(first, 1000, -5000, 5000), sides)
        self.assertEqual(self.widened_first(99999, 1000, 0, 100000), [99000, 100000])
        self.assertEqual(self.widened_first(-99999, 1000, -100000, 0), [-100000, -99000])

    def test_at_the_low_and_the_high(self):
        self.assertEqual(self.widened_first(3, 5, 1, 9), [1, 5])
        self.assertEqual(self.widened_first(8, 5, 1, 9), [5, 9])
        self.assertEqual(self.widened_first(3, 5, 3, 3), [3, 3])
        self.assertEqual(self.widened_first(3, 10, 1, 9), [1, 9])
        self.assertEqual(self.widened_first(-3, 10, -9, -1), [-9, -1])
        self.assertEqual(self.widened_first(-8, 5, -9, -1), [-9, -5])
        self.assertEqual(self.widened_first(5, 5, 5, 9), [5, 5])
        self.assertEqual(self.widened_first(7, 1000, 2, 9), [2, 9])

    def test_each_room_by_itself(self):
        text = lines("room a 9 7 0 9", "room b 9 -7 -20 20", "room c 9 1 1 2")
        self.assertEqual(searched(text, 5), [0, 1, 1, 5, 9, -10, -5, 1, 2])

    def test_posts_are_those_of_the_widened_entry(self):
        # 5 stays 5, but the widened entry from 0 to 10 has posts from 0 to 10 in either room.
        text = lines("room a 10 5 0 20", "room b 10 15 0 20", "link a b 5")
        self.assertEqual(rows_found(text, 10), [[0, 10, 10, 20], [0, 20, 0, 20]])


class Leaves(unittest.TestCase):
    def test_below_and_above(self):
        self.assertEqual(searched(OUTSIDE.format(5, 0, 9, -1, 9), 1), [0, 2, -1, 9])
        self.assertEqual(searched(OUTSIDE.format(5, 0, 9, 0, 10), 1), [0, 2, 0, 10])
        self.assertEqual(searched(OUTSIDE.format(5, 0, 9, -3, 12), 1), [0, 2, -3, 12])

    def test_the_other_side_is_widened(self):
        self.assertEqual(searched(OUTSIDE.format(5, 0, 9, -3, 6), 5), [0, 2, -3, 9])
        self.assertEqual(searched(OUTSIDE.format(5, 0, 9, -3, 4), 5), [0, 2, -3, 5])
        self.assertEqual(searched(OUTSIDE.format(7, 1, 9, 3, 12), 5), [0, 2, 1, 12])
        self.assertEqual(searched(OUTSIDE.format(7, 1, 9, 6, 12), 5), [0, 2, 5, 12])

    def test_both_sides_beyond_the_same_end_stay(self):
        self.assertEqual(searched(OUTSIDE.format(5, 0, 9, 12, 14), 5), [0, 2, 12, 14])
        self.assertEqual(searched(OUTSIDE.format(5, 0, 9, -7, -3), 5), [0, 2, -7, -3])
        self.assertEqual(searched(OUTSIDE.format(5, 0, 9, 10, 11), 1000), [0, 2, 10, 11])

    def test_the_other_rooms_are_widened(self):
        text = lines("room a 10 5 0 9", "room b 10 5 0 9", "sky a 10 3 10", "sky b 10 2 8")
        self.assertEqual(searched(text, 4), [0, 2, 0, 10, 0, 8])
        self.assertEqual(searched(text, 5), [0, 2, 0, 10, 0, 9])

    def test_by_widening_alone(self):
        # Just 5 is followed by 5 for ever; all of 0 to 10 is not.
        text = lines("room a 10 5 0 10", "room b 10 5 4 6", "link b a 2")
        self.assertEqual(searched(text, 1)[:2], [0, 1])
        self.assertEqual(searched(text, 10), [0, 2, 0, 10, 3, 6])

    def test_modes_stand_in_the_row(self):
        text = lines("room a 10 15 10 20", "sky a 10 10 20", "stove s a 10 a 12 18 3 0")
        self.assertEqual(searched(text, 1), [0, 2, 1, 3, 1, 0, 11, 21])

    def test_a_later_round(self):
        # 1 warmer each tick.
        text = lines("room a 10 0 0 3", "stove s a 10 a 50 60 0 0")
        self.assertEqual(searched(text, 1), [0, 2, 1, 0, 1, 0, 4, 4])

    def test_ahead_of_too_many(self):
        self.assertEqual(searched(OUTSIDE.format(5, 0, 9, -1, 9), 1, 1), [0, 2, -1, 9])
        text = lines("room a 10 0 0 {}", "stove s a 10 a 50 60 0 0")
        self.assertEqual(searched(text.format(8), 1), [0, 2, 1, 0, 1, 0, 9, 9])
        self.assertEqual(searched(text.format(9), 1), [0, 3])


class TooMany(unittest.TestCase):
    def test_as_many_as_may_be_and_one_more(self):
        text = OUTSIDE.format(5, 0, 9, 2, 7)
        self.assertEqual(searched(text, 1, 2), [0, 1, 2, 5, 5, 2, 7])
        self.assertEqual(searched(text, 1, 1), [0, 3])
        self.assertEqual(searched(text, 10, 1), [0, 1, 1, 0, 9])

    def test_covered_ones_may_follow_the_last(self):
        text = lines("room a 10 15 0 30", "sky a 10 10 20", "stove s a 10 a 12 18 0 0")
        for most in range(1, 6):
            answer = searched(text, 5, most)
            self.assertEqual(answer[1], 1 if most >= 3 else 3)

    # From 0 to {} there is 1 more each tick: so many entries, and two.
    GROWS = lines("room a 1000 0 0 99", "sky a 1 0 {}")

    def test_the_eighth_and_the_ninth_entry_of_the_same_modes(self):
        rows = [[0, greatest] for greatest in range(8)]
        self.assertEqual(rows_found(self.GROWS.format(1006), 1), rows)
        self.assertEqual(rows_found(self.GROWS.format(1006), 1, 8), rows)
        self.assertEqual(searched(self.GROWS.format(1006), 1, 7), [0, 3])
        self.assertEqual(rows_found(self.GROWS.format(1005), 1, 7), rows[:7])
        self.assertEqual(searched(self.GROWS.format(1007), 1), [0, 3])
        self.assertEqual(searched(self.GROWS.format(1007), 1, 9), [0, 3])

    def test_more_than_eight_of_several_modes(self):
        # One entry before the stove is switched on, and then those of the mode in which it is.
        text = lines("room a 1000 0 0 99", "sky a 1 -1000 {}", "stove s a 1000 a 98 99 0 0")
        rows = [[0, 0, 0, 0, 0, 0]] + [[1, 0, 1, 0, 0, greatest] for greatest in range(1, 9)]
        self.assertEqual(rows_found(text.format(7), 1), rows)
        self.assertEqual(rows_found(text.format(7), 1, 9), rows)
        self.assertEqual(searched(text.format(7), 1, 8), [0, 3])
        self.assertEqual(searched(text.format(8), 1), [0, 3])

    def test_forty_entries_of_as_many_modes(self):
        # Two timers run down, one tick after another, each in modes of its own.
        text = lines("room a 10 0 0 9", "stove s a 10 a 0 1 {} 20", "sky a 10 0 0")
        for stay, most in ((17, 39), (18, 40)):
            rows = rows_found(text.format(stay), 1, most)
            self.assertEqual(len(rows), most)
            self.assertEqual(len({tuple(row[:4]) for row in rows}), most)
            self.assertEqual(searched(text.format(stay), 1, most - 1), [0, 3])
        self.assertEqual(searched(text.format(19), 1), [0, 3])


class Ranges(unittest.TestCase):
    TEXT = lines("room a 10 5 0 9", "sky a 10 2 7")

    def test_at_the_ends(self):
        for grid, most in ((1, 40), (1000, 1), (1000, 40)):
            self.assertEqual(searched(self.TEXT, grid, most)[:2], [0, 1])
        self.assertEqual(searched(self.TEXT, 1, 1), [0, 3])

    def test_beyond_the_ends(self):
        before = [build(self.TEXT), tick([7], [], []), NOW, PRINT]
        wrong = ((0, 5), (-1, 5), (1001, 5), (5, 0), (5, -1), (5, 41), (0, 0), (1001, 41), (10 ** 9, 5), (5, 10 ** 9), (-10 ** 9, -10 ** 9))
        for grid, most in wrong:
            given = ask(*before, search(grid, most), NOW, PRINT)
            self.assertEqual(given[4], [-2], (grid, most))
            self.assertEqual(given[5:], given[2:4])
            self.assertEqual(ask_last(search(grid, most)), [-2])


class Otherwise(unittest.TestCase):
    def test_by_another_reckoning(self):
        ends = {1: 0, 2: 0, 3: 0}
        for seed in range(300):
            text = some_house(seed)
            grids = ((1, 40), (2, 40), (3, 12), (7, 40), (20, 5), (1, 3))
            given = ask(build(text), *[search(grid, most) for grid, most in grids])[1:]
            for (grid, most), answer in zip(grids, given):
                self.assertEqual(answer, plain_search(house_of(text), grid, most), (text, grid, most))
                ends[answer[1]] += 1
        self.assertGreater(min(ends.values()), 50, ends)

    def test_from_the_first_state_whatever_ticks_were_made(self):
        text = lines("room a 10 5 0 9", "sky a 10 2 7")
        given = ask(build(text), search(1, 40), tick([7], [], []), search(1, 40), BEGIN, search(1, 40))
        self.assertEqual([given[3], given[5]], [given[1]] * 2)

    def test_it_changes_nothing(self):
        for text in (lines("room a 10 5 0 9", "sky a 10 2 7"), lines("room a 10 5 0 9", "sky a 10 -2 7"), TooMany.GROWS.format(5000)):
            given = ask(build(text), tick([2], [], []), NOW, PRINT, BOUNDS, search(1, 40), NOW, PRINT, BOUNDS, tick([5], [], []))
            self.assertEqual(given[6:9], given[2:5])
            self.assertEqual(given[9], ask_last(build(text), tick([2], [], []), tick([5], [], [])))

    def test_what_it_tells_is_accepted(self):
        text = lines("room a 10 15 0 30", "sky a 10 10 20", "stove s a 10 a 12 18 2 1", "error 2", "losses 2")
        for grid in (1, 2, 5, 10, 1000):
            self.assertEqual(ask_last(build(text), check(*rows_found(text, grid))), [0, 1])


if __name__ == "__main__":
    unittest.main()
