import unittest

from tests.helper import BEGIN, BOUNDS, NOW, PRINT, ask, ask_last, build, escape, house_of, lines, plain_tick, some_house, tick


def escaped(text, most=12):
    return ask_last(build(text), escape(most))


def plain_inputs(house):
    """Extreme inputs in order, those that a mode forbids among them."""
    ways = sorted({-house.error, house.error})
    firsts = [[]] if not house.stoves else None
    for weather in ([sky.lo for sky in house.skies], [sky.hi for sky in house.skies]):
        if len(house.stoves) == 2:
            pairs = [[first, second] for second in ways for first in ways]
            drops = [[0, 0], [1, 0], [0, 1], [1, 1]]
        else:
            pairs = firsts or [[error] for error in ways]
            drops = firsts or [[0], [1]]
        for errors in pairs:
            for losses in drops:
                yield weather, errors, losses


def plain_escape(house, most, limit=400):
    """What escape should answer, and how many states were come to by the end of each length."""
    state = (tuple(room.first for room in house.rooms), ((0, 0, 0, 0),) * len(house.stoves))
    seen = {state}
    level = [(state, [])]
    counts = [1]
    for length in range(1, most + 1):
        further = []
        for (temperatures, modes), told in level:
            for weather, errors, losses in plain_inputs(house):
                after = plain_tick(house, temperatures, modes, weather, errors, losses)
                if after is None or after in seen:
                    continue
                seen.add(after)
                further.append((after, told + weather + errors + losses))
        for (temperatures, modes), told in further:
            if not all(room.low <= here <= room.high for room, here in zip(house.rooms, temperatures)):
                return [0, 1, length] + told, counts
        counts.append(len(seen))
        if len(seen) > limit:
            return [0, 0], counts
        level = further
    return [0, 0], counts


class OneRoom(unittest.TestCase):
    def test_none_where_the_weather_stays_in_the_band(self):
        text = lines("room a 10 5 0 9", "sky a 10 0 9")
        for most in range(13):
            self.assertEqual(escaped(text, most), [0, 0])

    def test_a_tick_by_the_coldest_weather(self):
        self.assertEqual(escaped(lines("room a 10 5 0 9", "sky a 10 -1 9")), [0, 1, 1, -1])

    def test_a_tick_by_the_warmest_weather(self):
        self.assertEqual(escaped(lines("room a 10 5 0 9", "sky a 10 0 10")), [0, 1, 1, 10])

    def test_the_coldest_weather_is_first(self):
        self.assertEqual(escaped(lines("room a 10 5 0 9", "sky a 10 -1 10")), [0, 1, 1, -1])

    def test_two_ticks(self):
        # From 5 to 2 or 9; from 2 to 1 or 8, and from 9 to 4 or 11.
        self.assertEqual(escaped(lines("room a 10 5 0 9", "sky a 5 0 14")), [0, 1, 2, 14, 14])

    def test_a_tick_of_each_weather(self):
        # Room a has to be warm twice to warm b beyond its band; the weather of the last tick doesn't reach b.
        text = lines("room a 10 0 0 99", "room b 10 0 0 9", "link a b 1", "sky a 9 0 99")
        self.assertEqual(escaped(text), [0, 1, 3, 99, 99, 0])

    def test_all_skies_are_at_the_same_end(self):
        text = lines("room a 10 5 0 9", "room b 10 5 0 9", "sky a 5 -7 9", "sky b 5 0 9", "sky a 5 0 99", "sky b 2 -3 4")
        self.assertEqual(escaped(text), [0, 1, 1, -7, 0, 0, -3])
        text = text.replace("-7 9", "0 9")
        self.assertEqual(escaped(text), [0, 1, 1, 9, 9, 99, 4])

    def test_the_band_at_and_beside_its_ends(self):
        for low, high, found in ((0, 9, 0), (1, 9, [1, 1, 0]), (0, 8, [1, 1, 9])):
            text = lines(f"room a 10 5 {low} {high}", "sky a 10 0 9")
            self.assertEqual(escaped(text), [0] + (found or [0]))

    def test_inputs_without_numbers(self):
        text = lines("room a 10 10 9 10", "room b 10 0 0 9", "link a b 1")
        self.assertEqual(escaped(text), [0, 1, 2])
        self.assertEqual(escaped(text, 2), [0, 1, 2])
        self.assertEqual(escaped(text, 1), [0, 0])

    def test_neither_skies_nor_links(self):
        self.assertEqual(escaped("room a 1 0 0 0\n"), [0, 0])


class Depth(unittest.TestCase):
    # A room that is 1 warmer tick by tick.
    TEXT = lines("room a 1000 0 0 {}", "stove s a 1000 a 99 100 0 0")

    def told(self, ticks):
        return [0, 1, ticks] + [0, 0] * ticks

    def test_a_run_of_0_ticks_is_none(self):
        self.assertEqual(escaped(self.TEXT.format(0), 0), [0, 0])
        self.assertEqual(escaped(self.TEXT.format(0), 1), self.told(1))

    def test_as_long_as_may_be_and_a_tick_longer(self):
        for high in range(12):
            for most in range(13):
                wanted = self.told(high + 1) if high + 1 <= most else [0, 0]
                self.assertEqual(escaped(self.TEXT.format(high), most), wanted)
        self.assertEqual(escaped(self.TEXT.format(12), 12), [0, 0])

    def test_beyond_the_range(self):
        before = [build(self.TEXT.format(0)), tick([], [0], [0]), NOW, PRINT]
        for most in (-1, 13, -10 ** 9, 10 ** 9):
            given = ask(*before, escape(most), NOW, PRINT)
            self.assertEqual(given[4], [-2], most)
            self.assertEqual(given[5:], given[2:4])

    def test_beyond_the_range_without_anything_built(self):
        self.assertEqual(ask(escape(-1), escape(13), escape(0), escape(12)), [[-2], [-2], [0, 0], [0, 0]])


class Stoves(unittest.TestCase):
    # Each room cools by 1 a tick, unless its own stove warms it by 1.
    COOL = ("room a 10 10 10 10", "room b 10 10 10 10", "sky a 1 0 0", "sky b 1 0 0")

    def test_one_stove_that_is_not_switched_on(self):
        text = lines("room a 10 10 10 10", "sky a 1 0 0", "stove s a 10 a 10 20 0 0", "error 2")
        self.assertEqual(escaped(text), [0, 1, 1, 0, 2, 0])
        self.assertEqual(escaped(text.replace("error 2", "error 0")), [0, 0])

    def test_one_stove_whose_message_is_lost(self):
        text = lines("room a 10 10 10 10", "sky a 1 0 0", "stove s a 10 a 10 20 0 0", "losses 1")
        self.assertEqual(escaped(text), [0, 1, 1, 0, 0, 1])
        # Losses come ahead of the other error.
        self.assertEqual(escaped(text + "error 2\n"), [0, 1, 1, 0, -2, 1])

    def test_the_first_stoves_error_changes_first(self):
        text = lines(*self.COOL, "stove s a 10 a 10 20 0 0", "stove t b 10 b 10 20 0 0", "error 3")
        self.assertEqual(escaped(text), [0, 1, 1, 0, 0, 3, -3, 0, 0])

    def test_the_second_stoves_error_changes_then(self):
        text = lines(*self.COOL, "stove s a 10 a 20 30 0 0", "stove t b 10 b 10 20 0 0", "error 3")
        self.assertEqual(escaped(text), [0, 1, 1, 0, 0, -3, 3, 0, 0])

    def test_the_first_stoves_message_is_lost_first(self):
        text = lines(*self.COOL, "stove s a 10 a 10 20 0 0", "stove t b 10 b 10 20 0 0", "losses 1")
        self.assertEqual(escaped(text), [0, 1, 1, 0, 0, 0, 0, 1, 0])
        self.assertEqual(escaped(text + "error 3\n"), [0, 1, 1, 0, 0, -3, -3, 1, 0])

    def test_the_second_stoves_message_is_lost_then(self):
        text = lines("room a 10 10 0 99", self.COOL[1], "sky b 1 0 0", "stove s a 10 a 10 20 0 0", "stove t b 10 b 10 20 0 0", "losses 1")
        self.assertEqual(escaped(text), [0, 1, 1, 0, 0, 0, 0, 1])

    def test_both_messages_have_to_be_lost(self):
        text = lines("room a 10 10 9 99", "sky a 2 0 0", "stove s a 10 a 10 20 0 0", "stove t a 10 a 10 20 0 0", "losses 1")
        self.assertEqual(escaped(text), [0, 1, 1, 0, 0, 0, 1, 1])

    def test_weather_changes_last(self):
        text = lines("room a 10 10 10 10", "sky a 1 0 10", "stove s a 10 a 10 20 0 0", "error 1")
        # At 0 outside the error has to be 1; at 10 the stove has to be on.
        self.assertEqual(escaped(text), [0, 1, 1, 0, 1, 0])

    def test_several_messages_in_a_row(self):
        # Each lost message is 1 less; the fourth can't be lost.
        text = "room a 1000 10 {} 99\nsky a 1 -990 -990\nstove s a 1000 a 50 60 0 0\nlosses 3\n"
        for low, ticks in ((10, 1), (9, 2), (8, 3)):
            found = escaped(text.format(low))
            self.assertEqual(found, [0, 1, ticks] + [-990, 0, 1] * ticks)
        self.assertEqual(escaped(text.format(7)), [0, 0])


class SameStates(unittest.TestCase):
    def test_the_first_of_several_runs_to_a_state_is_told(self):
        # While the timer runs, errors change nothing; of both errors the first is told.
        text = lines("room a 1000 0 0 4", "stove s a 1000 a 50 60 9 0", "error 2")
        self.assertEqual(escaped(text), [0, 1, 5] + [-2, 0] * 5)

    def test_as_many_states_as_ticks_where_all_inputs_lead_to_the_same(self):
        text = lines("room a 1000 0 0 11", "sky a 1 0 0", "stove s a 1100 a 50 60 20 0", "stove t a 5 a -9 -8 0 0", "error 3")
        answer, counts = plain_escape(house_of(text), 12)
        self.assertEqual(counts, list(range(1, 13)))
        self.assertEqual(answer, [0, 1, 12] + [0, -3, -3, 0, 0] * 12)
        self.assertEqual(escaped(text), answer)


class GivenUp(unittest.TestCase):
    # Each tick halves the way to 0 or to 100000, so that there are twice as many new states each time.
    TEXT = "room a 2 12345 0 {}\nsky a 1 0 100000\n"

    def test_more_than_400_states(self):
        house = house_of(self.TEXT.format(100000))
        self.assertEqual(plain_escape(house, 12)[1], [1, 3, 7, 15, 31, 63, 127, 255, 511])
        warm = 12345
        for ticks in range(1, 12):
            text = self.TEXT.format((warm + 100000) // 2 - 1)
            warm = (warm + 100000) // 2
            # The escape of 8 ticks is found as 255 states were come to before; then there are 511.
            wanted = [0, 1, ticks] + [100000] * ticks if ticks <= 8 else [0, 0]
            self.assertEqual(escaped(text), wanted)
            self.assertEqual(plain_escape(house_of(text), 12)[0], wanted)

    def test_just_400_states(self):
        text = lines("room a 13 82 -300 934", "sky a 7 -266 937")
        answer, counts = plain_escape(house_of(text), 12)
        self.assertEqual(counts, [1, 3, 7, 15, 31, 63, 126, 237, 400])
        self.assertEqual(answer[:3], [0, 1, 9])
        self.assertEqual(escaped(text), answer)

    def test_just_401_states(self):
        text = lines("room a 43 291 -300 725", "sky a 5 -11 941")
        answer, counts = plain_escape(house_of(text), 12)
        self.assertEqual(counts, [1, 3, 7, 15, 28, 54, 104, 183, 291, 401])
        self.assertEqual(plain_escape(house_of(text), 12, limit=401)[0][:3], [0, 1, 10])
        self.assertEqual(answer, [0, 0])
        self.assertEqual(escaped(text), answer)


class Otherwise(unittest.TestCase):
    def test_by_another_reckoning(self):
        found = 0
        for seed in range(400):
            text = some_house(seed)
            wanted = plain_escape(house_of(text), 12)[0]
            given = ask(build(text), escape(12), escape(2))[1:]
            self.assertEqual(given[0], wanted, text)
            self.assertEqual(given[1], plain_escape(house_of(text), 2)[0], text)
            found += given[0][1]
        self.assertGreater(found, 200)

    def test_from_the_first_state_whatever_ticks_were_made(self):
        text = lines("room a 10 5 0 9", "sky a 5 0 14")
        given = ask(build(text), escape(12), tick([14], [], []), escape(12), escape(1), NOW, BEGIN, escape(12))
        self.assertEqual(given[1], [0, 1, 2, 14, 14])
        self.assertEqual(given[3], given[1])
        self.assertEqual(given[4], [0, 0])
        self.assertEqual(given[5], [0, 1, 1, 9])
        self.assertEqual(given[7], given[1])

    def test_it_changes_nothing(self):
        text = lines("room a 10 5 0 9", "sky a 5 0 14", "stove s a 1 a 0 9 1 1", "error 1", "losses 1")
        before = [build(text), tick([14], [1], [1]), NOW, PRINT, BOUNDS]
        given = ask(*before, escape(12), NOW, PRINT, BOUNDS, tick([14], [-1], [0]))
        self.assertEqual(given[6:9], given[2:5])
        self.assertEqual(given[9], ask_last(*before, tick([14], [-1], [0])))

    def test_a_house_without_anything(self):
        self.assertEqual(ask(escape(0), escape(12)), [[0, 0], [0, 0]])
        self.assertEqual(ask_last(build("error 3\nlosses 2\n"), escape(12)), [0, 0])


if __name__ == "__main__":
    unittest.main()
