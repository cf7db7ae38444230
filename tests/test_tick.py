import unittest

from tests.helper import BEGIN, NOW, PRINT, ask, ask_last, build, lines, tick


def run(text, *ticks):
    """What each tick answers, of a house built from a text."""
    return ask(build(text), *ticks)[1:]


def thermostat(first, on, off, stay_on=0, stay_off=0, error=0, losses=0):
    """A house of one room whose temperature stays where the heat does not reach it."""
    return lines(
        "room a 1000 " + str(first) + " -100000 100000",
        "stove s a 1 a {} {} {} {}".format(on, off, stay_on, stay_off),
        "error " + str(error),
        "losses " + str(losses),
    )


def modes(text, *ticks):
    """The stoves' numbers after each tick, of a house with one room."""
    return [answer[3:] for answer in run(text, *ticks)]


class Temperatures(unittest.TestCase):
    def test_sky(self):
        text = lines("room a 10 50 0 100", "sky a 3 -20 30")
        self.assertEqual(run(text, tick([0], [], [])), [[0, 1, 35]])
        self.assertEqual(run(text, tick([-20], [], [])), [[0, 1, 29]])
        self.assertEqual(run(text, tick([30], [], [])), [[0, 1, 44]])

    def test_rounded_down_above_0(self):
        text = lines("room a 10 5 -9 9", "sky a 1 -9 9")
        self.assertEqual(run(text, tick([4], [], [])), [[0, 1, 4]])
        self.assertEqual(run(text, tick([5], [], [])), [[0, 1, 5]])
        self.assertEqual(run(text, tick([6], [], [])), [[0, 1, 5]])

    def test_rounded_down_below_0(self):
        text = lines("room a 10 0 -9 9", "sky a 1 -20 9")
        self.assertEqual(run(text, tick([-1], [], [])), [[0, 1, -1]])
        self.assertEqual(run(text, tick([-10], [], [])), [[0, 1, -1]])
        self.assertEqual(run(text, tick([-11], [], [])), [[0, 1, -2]])
        self.assertEqual(run(text, tick([1], [], [])), [[0, 1, 0]])

    def test_the_whole_sum_is_rounded_not_its_parts(self):
        text = lines("room a 10 0 -9 9", "sky a 1 -9 9", "sky a 1 -9 9")
        self.assertEqual(run(text, tick([5], [], [])), [[-3]])
        self.assertEqual(run(text, tick([5, 5], [], [])), [[0, 1, 1]])
        self.assertEqual(run(text, tick([-5, 5], [], [])), [[0, 1, 0]])
        self.assertEqual(run(text, tick([-5, 4], [], [])), [[0, 1, -1]])

    def test_several_skies_of_one_room_each_with_its_own_temperature(self):
        text = lines("room a 10 0 -99 99", "room b 10 0 -99 99", "sky a 2 -9 9", "sky b 5 -9 9", "sky a 3 -9 9")
        self.assertEqual(run(text, tick([5, -2, -5], [], [])), [[0, 1, -1, -1]])
        self.assertEqual(run(text, tick([-5, 4, 9], [], [])), [[0, 1, 1, 2]])

    def test_all_rooms_at_once(self):
        text = lines("room a 2 100 0 100", "room b 4 0 0 100", "room c 10 0 0 100", "link a b 1", "link c b 3")
        first = [0, 1, 50, 25, 0]
        second = [0, 1, 37, 12, 7]
        self.assertEqual(run(text, tick([], [], []), tick([], [], [])), [first, second])

    def test_a_link_reaches_from_either_room(self):
        for link in ("link a b 2", "link b a 2"):
            text = lines("room a 10 0 -99 99", "room b 4 20 -99 99", link)
            self.assertEqual(run(text, tick([], [], [])), [[0, 1, 4, 10]])

    def test_as_steady_as_may_be(self):
        text = lines("room a 3 90 -99 99", "room b 9 -30 -99 99", "link a b 1", "sky a 2 -60 60")
        self.assertEqual(run(text, tick([60], [], [])), [[0, 1, 30, -17]])

    def test_heat_of_the_stoves_that_are_on_in_their_own_room(self):
        stoves = ("stove s b 7 a 0 9 0 0", "stove t b 30 c 0 9 0 0")
        text = lines("room a 1 0 0 99", "room b 10 1 0 99", "room c 1 5 0 99", *stoves)
        self.assertEqual(run(text, tick([], [0, 0], [0, 0])), [[0, 1, 0, 1, 5, 1, 0, 1, 0, 0, 0, 0, 0]])
        text = lines("room a 1 0 0 99", "room b 10 1 0 99", "room c 1 0 0 99", *stoves)
        self.assertEqual(run(text, tick([], [0, 0], [0, 0])), [[0, 1, 0, 4, 0, 1, 0, 1, 0, 1, 0, 1, 0]])

    def test_heat_comes_in_the_tick_in_which_the_message_comes(self):
        text = lines("room a 1 0 0 99", "stove s a 10 a 0 20 0 0")
        answers = run(text, *[tick([], [0], [0])] * 4)
        self.assertEqual(answers, [[0, 1, 10, 1, 0, 1, 0], [0, 1, 20, 1, 0, 1, 0], [0, 1, 20, 0, 0, 0, 0], [0, 1, 20, 0, 0, 0, 0]])

    def test_far_beyond_the_band(self):
        text = lines("room a 1 0 0 0", "stove s a 1000000 a 99999 100000 20 0")
        answers = run(text, *[tick([], [0], [0])] * 21)
        self.assertEqual(answers[-1], [0, 0, 21000000, 1, 0, 1, 0])

    def test_in_the_band(self):
        text = lines("room a 10 0 -1 1", "room b 10 0 -1 1", "sky a 10 -9 9", "sky b 10 -9 9")
        for first, second, inside in ((-1, 1, 1), (1, -1, 1), (0, 2, 0), (2, 0, 0), (-2, 0, 0), (0, -2, 0), (2, 2, 0)):
            answers = ask(build(text), tick([first, second], [], []), NOW)
            self.assertEqual(answers[1:], [[0, inside, first, second], [0, 1, inside, first, second]])

    def test_a_run_goes_on_outside_the_band_and_may_come_back(self):
        text = lines("room a 10 0 -1 1", "sky a 10 -9 9")
        self.assertEqual(run(text, tick([9], [], []), tick([1], [], [])), [[0, 0, 9], [0, 1, 1]])


class Thermostats(unittest.TestCase):
    def test_on_at_and_beside_its_edge(self):
        for first, wanted in ((9, 1), (10, 1), (11, 0)):
            self.assertEqual(modes(thermostat(first, 10, 20), tick([], [0], [0])), [[wanted, 0, wanted, 0]])

    def test_on_with_errors(self):
        for first, error, wanted in ((13, -3, 1), (14, -3, 0), (7, 3, 1), (8, 3, 0), (10, 1, 0), (11, -1, 1)):
            text = thermostat(first, 10, 20, error=3)
            self.assertEqual(modes(text, tick([], [error], [0])), [[wanted, 0, wanted, 0]])

    def switched_on(self, first, error, bound=0):
        """The second tick's numbers where the first one switched the stove on at its room's temperature."""
        text = lines(
            "room a 1000 0 -100 100", "room b 1 {} -100 100".format(first), "stove s a 1 b {} 20 0 4".format(first),
            "sky b 1 -100 100", "error {}".format(bound),
        )
        return [answer[4:] for answer in run(text, tick([error[0]], [0], [0]), tick([0], [error[1]], [0]))]

    def test_off_at_and_beside_its_edge(self):
        for second, numbers in ((19, [1, 0, 1, 0]), (20, [0, 4, 0, 0]), (21, [0, 4, 0, 0])):
            self.assertEqual(self.switched_on(5, (second, 0)), [[1, 0, 1, 0], numbers])

    def test_off_with_errors(self):
        for second, error, wanted in ((17, 3, 0), (16, 3, 1), (23, -3, 0), (22, -3, 1), (19, 1, 0), (20, -1, 1)):
            numbers = [1, 0, 1, 0] if wanted else [0, 4, 0, 0]
            self.assertEqual(self.switched_on(5, (second, error), 3), [[1, 0, 1, 0], numbers])

    def test_between_the_thresholds_all_stays(self):
        self.assertEqual(modes(thermostat(15, 10, 20), *[tick([], [0], [0])] * 2), [[0, 0, 0, 0]] * 2)
        self.assertEqual(self.switched_on(5, (15, 0)), [[1, 0, 1, 0]] * 2)

    def test_it_stays_on_at_least(self):
        text = lines("room a 1 0 0 99", "sky a 1 0 99", "stove s a 1 a 0 10 3 2")
        ticks = [tick([50], [0], [0])] * 5
        numbers = [[1, 3, 1, 0], [1, 2, 1, 0], [1, 1, 1, 0], [1, 0, 1, 0], [0, 2, 0, 0]]
        self.assertEqual(modes(text, *ticks), numbers)

    def test_it_stays_off_at_least(self):
        text = lines("room a 1 0 0 99", "sky a 1 0 99", "stove s a 1 a 0 10 0 2")
        ticks = [tick([50], [0], [0])] + [tick([0], [0], [0])] * 5
        numbers = [[1, 0, 1, 0], [0, 2, 0, 0], [0, 1, 0, 0], [0, 0, 0, 0], [1, 0, 1, 0], [1, 0, 1, 0]]
        self.assertEqual(modes(text, *ticks), numbers)

    def test_with_a_timer_nothing_is_read(self):
        text = lines("room a 1 0 0 99", "sky a 1 0 99", "stove s a 1 a 0 10 1 1")
        self.assertEqual(modes(text, tick([50], [0], [0]), tick([5], [0], [0]), tick([5], [0], [0])), [[1, 1, 1, 0], [1, 0, 1, 0], [1, 0, 1, 0]])

    def test_longest_timers(self):
        text = thermostat(0, 0, 10, 20, 20)
        numbers = modes(text, *[tick([], [0], [0])] * 22)
        self.assertEqual([one[1] for one in numbers], list(range(20, -1, -1)) + [0])

    def test_the_sensor_reads_before_the_temperatures_change(self):
        text = lines("room a 1 11 0 99", "sky a 1 0 99", "stove s a 1 a 10 20 0 0")
        self.assertEqual(run(text, tick([0], [0], [0]), tick([0], [0], [0])), [[0, 1, 0, 0, 0, 0, 0], [0, 1, 1, 1, 0, 1, 0]])

    def test_each_stove_has_its_own_error(self):
        text = lines("room a 1000 10 0 99", "stove s a 1 a 10 20 2 0", "stove t a 1 a 10 20 5 0", "error 1")
        self.assertEqual(modes(text, tick([], [1, 0], [0, 0])), [[0, 0, 0, 0, 1, 5, 1, 0]])
        self.assertEqual(modes(text, tick([], [0, 1], [0, 0])), [[1, 2, 1, 0, 0, 0, 0, 0]])


class Messages(unittest.TestCase):
    def test_a_lost_message_leaves_the_stove_as_it_is(self):
        text = lines("room a 1 0 0 99", "sky a 1 0 99", "stove s a 1 a 0 10 0 0", "losses 2")
        ticks = [([0], [1]), ([50], [1]), ([0], [0]), ([0], [0]), ([50], [0]), ([50], [1]), ([50], [0])]
        numbers = [[1, 0, 0, 1], [1, 0, 0, 2], [0, 0, 0, 0], [1, 0, 1, 0], [1, 0, 1, 0], [0, 0, 1, 1], [0, 0, 0, 0]]
        self.assertEqual(modes(text, *[tick(weather, [0], losses) for weather, losses in ticks]), numbers)

    def test_heat_of_a_stove_that_is_on_but_not_wanted(self):
        text = lines("room a 1 0 0 99", "stove s a 10 a 0 10 0 0", "losses 1")
        answers = run(text, tick([], [0], [0]), tick([], [0], [1]), tick([], [0], [0]))
        self.assertEqual(answers, [[0, 1, 10, 1, 0, 1, 0], [0, 1, 20, 0, 0, 1, 1], [0, 1, 20, 0, 0, 0, 0]])

    def test_as_many_in_a_row_as_may_be(self):
        for losses in range(4):
            text = thermostat(0, 0, 10, losses=losses)
            ticks = [tick([], [0], [1])] * losses + [tick([], [0], [1]), tick([], [0], [0]), tick([], [0], [1])]
            answers = run(text, *ticks)
            self.assertEqual([answer[-1] for answer in answers[:losses]], list(range(1, losses + 1)))
            self.assertEqual(answers[losses], [-3])
            self.assertEqual(answers[losses + 1][3:], [1, 0, 1, 0])
            self.assertEqual(answers[losses + 2], [0, 1, 0, 1, 0, 1, 1] if losses else [-3])

    def test_losses_count_for_each_stove(self):
        text = lines("room a 1000 0 0 99", "stove s a 1 a 0 10 0 0", "stove t a 1 a 0 10 0 0", "losses 1")
        answers = run(text, tick([], [0, 0], [1, 0]), tick([], [0, 0], [0, 1]), tick([], [0, 0], [0, 1]), tick([], [0, 0], [1, 0]))
        self.assertEqual([answer[3:] for answer in answers], [[1, 0, 0, 1, 1, 0, 1, 0], [1, 0, 1, 0, 1, 0, 1, 1], [], [1, 0, 1, 1, 1, 0, 1, 0]])
        self.assertEqual(answers[2], [-3])

    def test_a_message_is_lost_while_the_timer_runs(self):
        text = thermostat(0, 0, 10, 3, 0, losses=3)
        answers = modes(text, tick([], [0], [1]), tick([], [0], [1]), tick([], [0], [0]))
        self.assertEqual(answers, [[1, 3, 0, 1], [1, 2, 0, 2], [1, 1, 1, 0]])


class NotLawful(unittest.TestCase):
    TEXT = lines(
        "room a 10 5 0 9", "room b 10 5 0 9", "sky a 1 -5 5", "sky b 1 0 7",
        "stove s a 3 a 4 6 0 0", "stove t b 3 a 4 6 0 0", "error 2", "losses 1",
    )

    def assert_refused(self, *given):
        before = [build(self.TEXT), tick([0, 0], [0, 0], [1, 0]), NOW, PRINT]
        answers = ask(*before, tick(*given), NOW, PRINT, tick([0, 0], [0, 0], [0, 1]))
        self.assertEqual(answers[4], [-3], given)
        self.assertEqual(answers[5:7], answers[2:4])
        self.assertEqual(answers[7], ask_last(*before, tick([0, 0], [0, 0], [0, 1])))

    def test_lawful_at_the_ends(self):
        for weather in ([-5, 0], [5, 7], [-5, 7]):
            for errors in ([-2, -2], [2, 2], [2, -2]):
                for losses in ([0, 0], [1, 1], [0, 1]):
                    answer = ask_last(build(self.TEXT), tick(weather, errors, losses))
                    self.assertEqual(answer[0], 0)
                    self.assertEqual(len(answer), 12)

    def test_weather_beyond_its_ends(self):
        for weather in ([-6, 0], [6, 0], [0, -1], [0, 8], [7, 5], [10 ** 9, 0], [0, -10 ** 9]):
            self.assert_refused(weather, [0, 0], [0, 0])

    def test_errors_beyond_the_error(self):
        for errors in ([-3, 0], [3, 0], [0, -3], [0, 3], [10 ** 9, 0], [0, -10 ** 9]):
            self.assert_refused([0, 0], errors, [0, 0])

    def test_losses_that_are_not_0_or_1(self):
        for losses in ([0, 2], [0, -1], [-1, 0], [2, 0], [0, 10 ** 9], [-10 ** 9, 0]):
            self.assert_refused([0, 0], [0, 0], losses)

    def test_too_many_losses_in_a_row(self):
        self.assert_refused([0, 0], [0, 0], [1, 0])
        self.assert_refused([0, 0], [0, 0], [1, 1])

    def test_lists_that_are_not_as_long(self):
        right = ([0, 0], [0, 0], [0, 0])
        for place in range(3):
            for wrong in ([], [0], [0, 0, 0], [0] * 20):
                self.assert_refused(*right[:place], wrong, *right[place + 1:])

    def test_a_house_without_anything(self):
        self.assertEqual(ask(tick([], [], []), tick([0], [], []), tick([], [0], []), tick([], [], [0]), NOW), [[0, 1], [-3], [-3], [-3], [0, 1, 1]])

    def test_no_error_and_no_losses(self):
        text = lines("room a 9 5 0 9", "stove s a 1 a 4 6 0 0")
        self.assertEqual(run(text, tick([], [1], [0]), tick([], [-1], [0]), tick([], [0], [1])), [[-3]] * 3)


class NowAndBegin(unittest.TestCase):
    TEXT = lines("room a 10 0 0 3", "sky a 5 -9 9", "stove s a 20 a 0 2 1 1", "losses 1")

    def test_before_the_first_call(self):
        self.assertEqual(ask(NOW, BEGIN, NOW), [[0, 0, 1], [0], [0, 0, 1]])

    def test_after_build(self):
        self.assertEqual(ask_last(build(self.TEXT), NOW), [0, 0, 1, 0, 0, 0, 0, 0])

    def test_after_several_ticks(self):
        ticks = [tick([0], [0], [0]), tick([9], [0], [0]), tick([9], [0], [1])]
        given = ask(build(self.TEXT), ticks[0], NOW, ticks[1], NOW, ticks[2], NOW, NOW)
        self.assertEqual(given[2], [0, 1, 1, 2, 1, 1, 1, 0])
        self.assertEqual(given[4], [0, 2, 0, 7, 1, 0, 1, 0])
        self.assertEqual(given[6], [0, 3, 0, 10, 0, 1, 1, 1])
        self.assertEqual(given[7], given[6])
        for place in (1, 3, 5):
            self.assertEqual(given[place], [0] + given[place + 1][2:])

    def test_after_begin(self):
        ticks = [tick([9], [0], [1]), tick([9], [0], [0])]
        given = ask(build(self.TEXT), *ticks, BEGIN, NOW, *ticks, NOW)
        self.assertEqual(given[3], [0])
        self.assertEqual(given[4], [0, 0, 1, 0, 0, 0, 0, 0])
        self.assertEqual(given[5:7], given[1:3])
        self.assertEqual(given[7][1], 2)

    def test_after_another_build(self):
        given = ask(build(self.TEXT), tick([9], [0], [0]), build(self.TEXT), NOW, build(""), NOW)
        self.assertEqual(given[3], [0, 0, 1, 0, 0, 0, 0, 0])
        self.assertEqual(given[5], [0, 0, 1])

    def test_a_refused_tick_is_not_counted(self):
        given = ask(build(self.TEXT), tick([10], [0], [0]), tick([0], [0], [0]), tick([0], [0], [2]), NOW)
        self.assertEqual(given[4][1], 1)


if __name__ == "__main__":
    unittest.main()
