import itertools
import unittest

from bandhouse.boxes import Entry, entry_of, is_right_row, posts_of, row_of
from bandhouse.plan import State, first_state
from bandhouse.texts import read_house
from bandhouse.ticks import TickInput, is_lawful, state_after
from tests.helper import NOW, PRINT, ask, ask_last, build, lines, posts, tick


def rows(text, row):
    """The posts' rows of the entry that a row tells."""
    answer = ask_last(build(text), posts(row))
    if answer[0] != 0:
        return answer
    ends = answer[2:]
    return [ends[place:place + len(row)] for place in range(0, len(ends), len(row))] if row else [[]] * answer[1]


def one_stove(*more):
    """A room that keeps its temperature, and a stove whose heat is 1000 of 1000: 1 more where it's on."""
    return lines("room a 1000 0 -99 99", "stove s a 1000 a 10 20 3 5", *more)


class OneStove(unittest.TestCase):
    def test_a_timer_has_one_way(self):
        self.assertEqual(rows(one_stove(), [1, 2, 1, 0, 0, 50]), [[1, 1, 1, 0, 1, 51]])
        self.assertEqual(rows(one_stove(), [0, 20, 1, 0, 0, 50]), [[0, 19, 0, 0, 0, 50]])
        self.assertEqual(rows(one_stove(), [0, 1, 0, 0, 0, 50]), [[0, 0, 0, 0, 0, 50]])

    def test_wanted_first_off_then_on(self):
        self.assertEqual(rows(one_stove(), [1, 0, 1, 0, 0, 50]), [[0, 5, 0, 0, 20, 50], [1, 0, 1, 0, 1, 20]])

    def test_wanted_with_an_error(self):
        self.assertEqual(rows(one_stove("error 4"), [1, 0, 1, 0, 0, 50]), [[0, 5, 0, 0, 16, 50], [1, 0, 1, 0, 1, 24]])

    def test_wanted_at_and_beside_the_edges(self):
        text = one_stove("error 4")
        self.assertEqual(rows(text, [1, 0, 1, 0, 16, 23]), [[0, 5, 0, 0, 16, 23], [1, 0, 1, 0, 17, 24]])
        self.assertEqual(rows(text, [1, 0, 1, 0, 16, 16]), [[0, 5, 0, 0, 16, 16], [1, 0, 1, 0, 17, 17]])
        self.assertEqual(rows(text, [1, 0, 1, 0, 23, 23]), [[0, 5, 0, 0, 23, 23], [1, 0, 1, 0, 24, 24]])
        self.assertEqual(rows(text, [1, 0, 1, 0, 15, 15]), [[1, 0, 1, 0, 16, 16]])
        self.assertEqual(rows(text, [1, 0, 1, 0, 24, 24]), [[0, 5, 0, 0, 24, 24]])
        self.assertEqual(rows(one_stove(), [1, 0, 1, 0, 19, 19]), [[1, 0, 1, 0, 20, 20]])
        self.assertEqual(rows(one_stove(), [1, 0, 1, 0, 20, 20]), [[0, 5, 0, 0, 20, 20]])

    def test_not_wanted_first_on_then_off(self):
        self.assertEqual(rows(one_stove(), [0, 0, 0, 0, 0, 50]), [[1, 3, 1, 0, 1, 11], [0, 0, 0, 0, 11, 50]])

    def test_not_wanted_with_an_error(self):
        self.assertEqual(rows(one_stove("error 4"), [0, 0, 0, 0, 0, 50]), [[1, 3, 1, 0, 1, 15], [0, 0, 0, 0, 7, 50]])

    def test_not_wanted_at_and_beside_the_edges(self):
        text = one_stove("error 4")
        self.assertEqual(rows(text, [0, 0, 0, 0, 7, 14]), [[1, 3, 1, 0, 8, 15], [0, 0, 0, 0, 7, 14]])
        self.assertEqual(rows(text, [0, 0, 0, 0, 7, 7]), [[1, 3, 1, 0, 8, 8], [0, 0, 0, 0, 7, 7]])
        self.assertEqual(rows(text, [0, 0, 0, 0, 14, 14]), [[1, 3, 1, 0, 15, 15], [0, 0, 0, 0, 14, 14]])
        self.assertEqual(rows(text, [0, 0, 0, 0, 6, 6]), [[1, 3, 1, 0, 7, 7]])
        self.assertEqual(rows(text, [0, 0, 0, 0, 15, 15]), [[0, 0, 0, 0, 15, 15]])
        self.assertEqual(rows(one_stove(), [0, 0, 0, 0, 10, 10]), [[1, 3, 1, 0, 11, 11]])
        self.assertEqual(rows(one_stove(), [0, 0, 0, 0, 11, 11]), [[0, 0, 0, 0, 11, 11]])

    def test_messages_first_it_comes_then_it_is_lost(self):
        text = one_stove("losses 2")
        self.assertEqual(rows(text, [1, 2, 0, 0, 0, 5]), [[1, 1, 1, 0, 1, 6], [1, 1, 0, 1, 0, 5]])
        self.assertEqual(rows(text, [1, 2, 0, 1, 0, 5]), [[1, 1, 1, 0, 1, 6], [1, 1, 0, 2, 0, 5]])
        self.assertEqual(rows(text, [1, 2, 0, 2, 0, 5]), [[1, 1, 1, 0, 1, 6]])
        self.assertEqual(rows(text, [0, 2, 1, 0, 0, 5]), [[0, 1, 0, 0, 0, 5], [0, 1, 1, 1, 1, 6]])

    def test_ways_and_then_messages(self):
        text = one_stove("losses 1")
        off = [[0, 5, 0, 0, 20, 50], [0, 5, 1, 1, 21, 51]]
        on = [[1, 0, 1, 0, 1, 20], [1, 0, 1, 1, 1, 20]]
        self.assertEqual(rows(text, [1, 0, 1, 0, 0, 50]), off + on)

    def test_posts_may_be_alike(self):
        text = one_stove("losses 1")
        self.assertEqual(rows(text, [0, 2, 0, 0, 0, 5]), [[0, 1, 0, 0, 0, 5], [0, 1, 0, 1, 0, 5]])

    def test_a_sensor_in_another_room(self):
        text = lines("room a 10 0 -99 99", "room b 10 0 -99 99", "stove s a 100 b 10 20 0 0")
        row = [0, 0, 0, 0, 0, 50, 5, 15]
        self.assertEqual(rows(text, row), [[1, 0, 1, 0, 10, 60, 5, 10], [0, 0, 0, 0, 0, 50, 11, 15]])

    def test_posts_beyond_what_a_row_may_tell(self):
        text = lines("room a 1 0 0 0", "stove s a 1000000 a 0 1 0 0")
        self.assertEqual(rows(text, [1, 1, 1, 0, -100000, 100000]), [[1, 0, 1, 0, 900000, 1100000]])


class TwoStoves(unittest.TestCase):
    TWO_ROOMS = lines(
        "room a 1000 0 -99 99", "room b 1000 0 -99 99",
        "stove s a 1000 a 10 20 1 2", "stove t b 2000 b 30 40 3 4", "losses 1",
    )

    def test_the_order_of_ways_and_messages(self):
        got = rows(self.TWO_ROOMS, [0, 0, 0, 0, 1, 0, 1, 0, 0, 50, 0, 50])
        wanted = [1, 1, 1, 0], [1, 1, 0, 1]
        left = [0, 0, 0, 0], [0, 0, 0, 1]
        ended = [0, 4, 0, 0], [0, 4, 1, 1]
        kept = [1, 0, 1, 0], [1, 0, 1, 1]
        modes = []
        for first, second in ((wanted, ended), (wanted, kept), (left, ended), (left, kept)):
            modes += [first[0] + second[0], first[0] + second[1], first[1] + second[0], first[1] + second[1]]
        self.assertEqual([row[:8] for row in got], modes)
        self.assertEqual(got[0], [1, 1, 1, 0, 0, 4, 0, 0, 1, 11, 40, 50])
        self.assertEqual(got[1], [1, 1, 1, 0, 0, 4, 1, 1, 1, 11, 42, 52])
        self.assertEqual(got[2], [1, 1, 0, 1, 0, 4, 0, 0, 0, 10, 40, 50])
        self.assertEqual(got[4], [1, 1, 1, 0, 1, 0, 1, 0, 1, 11, 2, 41])
        self.assertEqual(got[15], [0, 0, 0, 1, 1, 0, 1, 1, 11, 50, 2, 41])

    def test_the_first_lost_as_often_as_may_be(self):
        got = rows(self.TWO_ROOMS, [1, 5, 1, 1, 0, 5, 0, 0, 0, 0, 0, 0])
        self.assertEqual(got, [[1, 4, 1, 0, 0, 4, 0, 0, 1, 1, 0, 0], [1, 4, 1, 0, 0, 4, 0, 1, 1, 1, 0, 0]])

    def both(self, second, *more):
        """Both stoves read one room and warm another."""
        return lines(
            "room a 1000 0 -99 99", "room b 1000 0 -99 99",
            "stove s b 1000 a 10 20 0 0", "stove t b 2000 a " + second + " 0 0", *more,
        )

    def test_both_read_one_room(self):
        got = rows(self.both("15 30"), [0, 0, 0, 0, 0, 0, 0, 0, 0, 50, 0, 0])
        self.assertEqual(got, [
            [1, 0, 1, 0, 1, 0, 1, 0, 0, 10, 3, 3],
            [0, 0, 0, 0, 1, 0, 1, 0, 11, 15, 2, 2],
            [0, 0, 0, 0, 0, 0, 0, 0, 16, 50, 0, 0],
        ])

    def test_both_read_one_room_with_an_error(self):
        got = rows(self.both("15 30", "error 3"), [0, 0, 0, 0, 0, 0, 0, 0, 0, 50, 0, 0])
        self.assertEqual(got, [
            [1, 0, 1, 0, 1, 0, 1, 0, 0, 13, 3, 3],
            [1, 0, 1, 0, 0, 0, 0, 0, 13, 13, 1, 1],
            [0, 0, 0, 0, 1, 0, 1, 0, 8, 18, 2, 2],
            [0, 0, 0, 0, 0, 0, 0, 0, 13, 50, 0, 0],
        ])

    def test_nothing_is_left_of_a_cut_entry(self):
        got = rows(self.both("15 30"), [1, 0, 1, 0, 0, 0, 0, 0, 0, 50, 0, 0])
        self.assertEqual(got, [
            [0, 0, 0, 0, 0, 0, 0, 0, 20, 50, 0, 0],
            [1, 0, 1, 0, 1, 0, 1, 0, 0, 15, 3, 3],
            [1, 0, 1, 0, 0, 0, 0, 0, 16, 19, 1, 1],
        ])

    def test_the_second_cuts_what_the_first_left_though_its_timer_runs(self):
        got = rows(self.both("15 30"), [0, 7, 0, 0, 1, 0, 1, 0, 0, 50, 0, 0])
        self.assertEqual(got, [[0, 6, 0, 0, 0, 0, 0, 0, 30, 50, 0, 0], [0, 6, 0, 0, 1, 0, 1, 0, 0, 29, 2, 2]])


class Corners(unittest.TestCase):
    def test_skies_and_links(self):
        text = lines("room a 10 0 -99 99", "room b 4 0 -99 99", "link b a 2", "sky a 3 -20 5", "sky a 1 0 30")
        self.assertEqual(rows(text, [-10, 10, 5, 25]), [[-9, 13, -3, 17]])

    def test_rounded_down_at_both_corners(self):
        text = lines("room a 10 0 -99 99", "sky a 1 -1 1")
        self.assertEqual(rows(text, [0, 0]), [[-1, 0]])
        self.assertEqual(rows(text, [-3, -2]), [[-3, -2]])

    def test_rooms_without_stoves(self):
        self.assertEqual(rows("room a 1 0 0 0\n", [-100000, 100000]), [[-100000, 100000]])

    def test_neither_rooms_nor_stoves(self):
        self.assertEqual(ask(posts([]), posts([0]), posts([0, 0])), [[0, 1], [-2], [-2]])
        self.assertEqual(ask_last(build("error 3\nlosses 2\n"), posts([])), [0, 1])


class NotRight(unittest.TestCase):
    TEXT = lines("room a 10 0 0 9", "room b 10 0 0 9", "sky a 1 0 9", "stove s a 1 b 0 1 0 0", "stove t b 1 a 0 1 0 0", "losses 2")
    ROW = [0, 0, 0, 0, 1, 0, 1, 0, 0, 9, 0, 9]

    def with_number(self, place, number):
        return self.ROW[:place] + [number] + self.ROW[place + 1:]

    def assert_right(self, row):
        self.assertEqual(ask_last(build(self.TEXT), posts(row))[0], 0, row)

    def assert_not_right(self, row):
        before = [build(self.TEXT), tick([9], [0, 0], [1, 0]), NOW, PRINT]
        given = ask(*before, posts(row), NOW, PRINT)
        self.assertEqual(given[4], [-2], row)
        self.assertEqual(given[5:], given[2:4])

    def test_length(self):
        self.assert_right(self.ROW)
        for row in ([], self.ROW[:-1], self.ROW[:-2], self.ROW[1:], self.ROW[4:], self.ROW + [0], self.ROW + [0, 9], [0] * 40):
            self.assert_not_right(row)

    def test_wanted_and_is(self):
        for place in (0, 2, 4, 6):
            for number in (0, 1):
                self.assert_right(self.with_number(place, number))
            for number in (-1, 2, 10 ** 9, -10 ** 9):
                self.assert_not_right(self.with_number(place, number))

    def test_timer(self):
        for place in (1, 5):
            for number in (0, 1, 20):
                self.assert_right(self.with_number(place, number))
            for number in (-1, 21, 10 ** 9, -10 ** 9):
                self.assert_not_right(self.with_number(place, number))

    def test_losses_in_a_row(self):
        for place in (3, 7):
            for number in (0, 1, 2):
                self.assert_right(self.with_number(place, number))
            for number in (-1, 3, 10 ** 9, -10 ** 9):
                self.assert_not_right(self.with_number(place, number))

    def test_losses_in_a_row_go_by_the_house(self):
        text = self.TEXT.replace("losses 2", "losses 0")
        self.assertEqual(ask_last(build(text), posts(self.with_number(3, 0)))[0], 0)
        self.assertEqual(ask_last(build(text), posts(self.with_number(3, 1))), [-2])

    def test_temperatures(self):
        for place in (8, 10):
            for number in (-100000, 9):
                self.assert_right(self.with_number(place, number))
            for number in (-100001, 10, 100000, 10 ** 9, -10 ** 9):
                self.assert_not_right(self.with_number(place, number))
        for place in (9, 11):
            for number in (0, 100000):
                self.assert_right(self.with_number(place, number))
            for number in (-1, -100000, 100001, 10 ** 9, -10 ** 9):
                self.assert_not_right(self.with_number(place, number))

    def test_a_right_row_changes_nothing(self):
        given = ask(build(self.TEXT), tick([9], [0, 0], [1, 0]), NOW, PRINT, posts(self.ROW), NOW, PRINT)
        self.assertEqual(given[5:], given[2:4])


SMALL = (
    lines("room a 2 0 -9 9", "sky a 1 -2 1", "stove s a 3 a 0 1 1 0", "error 1", "losses 1"),
    lines("room a 3 0 -9 9", "sky a 1 -1 1", "sky a 2 0 1", "stove s a 4 a -1 2 0 2", "losses 2"),
    lines("room a 2 0 -9 9", "room b 3 0 -9 9", "link b a 1", "sky a 1 -1 0", "stove s a 3 b 0 1 0 1", "error 1"),
    lines("room a 2 0 -9 9", "sky a 1 -1 1", "stove s a 1 a 0 1 0 1", "stove t a 2 a -1 2 1 0", "error 1", "losses 1"),
    lines("room a 2 0 -9 9", "room b 2 0 -9 9", "link a b 1", "stove s b 1 a 0 1 0 1", "stove t a 2 b -1 1 1 0", "losses 1"),
    lines("room a 3 0 -9 9", "room b 1 0 -9 9", "room c 2 0 -9 9", "link a b 1", "link c a 1", "sky c 1 -1 1", "sky a 1 0 1"),
)


def some_modes(house):
    """Modes of a stove, all that differ in what a tick does."""
    return list(itertools.product((0, 1), (0, 2), (0, 1), range(house.losses + 1)))


def all_inputs(house):
    skies = itertools.product(*[range(sky.lo, sky.hi + 1) for sky in house.skies])
    errors = itertools.product(range(-house.error, house.error + 1), repeat=len(house.stoves))
    losses = itertools.product((0, 1), repeat=len(house.stoves))
    return [TickInput(*given) for given in itertools.product(skies, errors, losses)]


def is_in(state, entry):
    sides = zip(entry.leasts, state.temperatures, entry.greatests)
    return state.modes == entry.modes and all(least <= here <= greatest for least, here, greatest in sides)


def ends(house, entry):
    """All states that ticks by lawful inputs from the states of an entry lead to."""
    boxes = [range(least, greatest + 1) for least, greatest in zip(entry.leasts, entry.greatests)]
    lawful = [given for given in all_inputs(house) if is_lawful(house, entry.modes, given)]
    found = {}
    for temperatures in itertools.product(*boxes):
        for given in lawful:
            after = state_after(house, State(temperatures, entry.modes), given)
            found[(after.temperatures, after.modes)] = after
    return found


class PromiseThree(unittest.TestCase):
    def check(self, house, entry):
        found = ends(house, entry)
        after = posts_of(house, entry)
        for state in found.values():
            self.assertTrue(any(is_in(state, post) for post in after), (row_of(entry), state.temperatures, state.modes))
        for post in after:
            self.assertIn((post.leasts, post.modes), found, row_of(entry))
            self.assertIn((post.greatests, post.modes), found, row_of(entry))

    def test_state_by_state_and_input_by_input(self):
        for text in SMALL:
            house = read_house(list(text.encode()))[0]
            sizes = ((-2, 2), (0, 1), (1, 1)) if len(house.rooms) == 1 else ((-1, 1), (1, 2))
            for modes in itertools.product(some_modes(house), repeat=len(house.stoves)):
                for sides in itertools.product(sizes, repeat=len(house.rooms)):
                    entry = Entry(modes, tuple(side[0] for side in sides), tuple(side[1] for side in sides))
                    self.check(house, entry)

    def test_runs_by_the_calls(self):
        """Each state of a run is in a post of the entry of just the state before it."""
        for text in SMALL:
            house = read_house(list(text.encode()))[0]
            inputs = all_inputs(house)
            steps = []
            state = first_state(house)
            for turn in range(40):
                lawful = [given for given in inputs if is_lawful(house, state.modes, given)]
                given = lawful[(turn * 7919) % len(lawful)]
                row = row_of(Entry(state.modes, state.temperatures, state.temperatures))
                steps.append((tick(given.weather, given.errors, given.losses), posts(row)))
                state = state_after(house, state, given)
            calls = [call for made, asked in steps for call in (asked, made)]
            given_back = ask(build(text), *calls)[1:]
            for asked, made in zip(given_back[0::2], given_back[1::2]):
                self.assert_in_posts(house, asked, made)

    def assert_in_posts(self, house, asked, made):
        width = 2 * len(house.rooms) + 4 * len(house.stoves)
        temperatures = tuple(made[2:2 + len(house.rooms)])
        numbers = made[2 + len(house.rooms):]
        modes = tuple(tuple(numbers[place:place + 4]) for place in range(0, len(numbers), 4))
        told = [asked[2 + width * place:2 + width * (place + 1)] for place in range(asked[1])]
        self.assertEqual(len(asked), 2 + width * asked[1])
        self.assertTrue(any(is_in(State(temperatures, modes), entry_of(house, row)) for row in told))


class Rows(unittest.TestCase):
    def test_a_row_and_its_entry(self):
        house = read_house(list(NotRight.TEXT.encode()))[0]
        row = [0, 1, 1, 2, 1, 20, 0, 1, -3, 4, 5, 6]
        self.assertTrue(is_right_row(house, row))
        entry = entry_of(house, row)
        self.assertEqual(entry.modes, ((0, 1, 1, 2), (1, 20, 0, 1)))
        self.assertEqual((entry.leasts, entry.greatests), ((-3, 5), (4, 6)))
        self.assertEqual(row_of(entry), row)


if __name__ == "__main__":
    unittest.main()
