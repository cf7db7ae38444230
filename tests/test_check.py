import unittest

from tests.helper import BEGIN, NOW, PRINT, ask, ask_last, build, check, lines, tick

# The room has just the temperature that was outside.
OUTSIDE = lines("room a 10 5 0 9", "sky a 10 0 9")

# As it is outside, from 10 to 20, and 1 more where the stove is on.
STOVE = lines("room a 10 15 10 21", "sky a 10 10 20", "stove s a 10 a 12 18 0 0")
STOVE_OFF = [0, 0, 0, 0, 10, 20]
STOVE_ON = [1, 0, 1, 0, 11, 21]


def checked(text, *rows):
    return ask_last(build(text), check(*rows))


class Accepted(unittest.TestCase):
    def test_one_entry(self):
        self.assertEqual(checked(OUTSIDE, [0, 9]), [0, 1])

    def test_posts_covered_by_several_together(self):
        self.assertEqual(checked(OUTSIDE, [0, 4], [5, 9]), [0, 1])
        self.assertEqual(checked(OUTSIDE, [5, 9], [0, 6]), [0, 1])
        self.assertEqual(checked(OUTSIDE, [5, 5], [0, 1], [2, 7], [8, 9]), [0, 1])

    def test_modes(self):
        self.assertEqual(checked(STOVE, STOVE_OFF, STOVE_ON), [0, 1])
        self.assertEqual(checked(STOVE, STOVE_ON, STOVE_OFF), [0, 1])

    def test_entries_that_no_run_comes_to(self):
        # A stove that is on though it isn't wanted, and one that isn't though it is.
        self.assertEqual(checked(STOVE, STOVE_OFF, STOVE_ON, [0, 0, 1, 0, 10, 21], [1, 0, 0, 0, 21, 21]), [0, 1])
        self.assertEqual(checked(STOVE, STOVE_OFF, STOVE_ON, [1, 1, 1, 0, 10, 21]), [0, 1])

    def test_the_narrowest(self):
        self.assertEqual(checked("room a 1 0 0 0\n", [0, 0]), [0, 1])
        self.assertEqual(checked("room a 1 -3 -3 -3\nsky a 1 -3 -3\n", [-3, -3]), [0, 1])


class FirstState(unittest.TestCase):
    def test_no_entries(self):
        self.assertEqual(checked(OUTSIDE), [0, 0, 0, 3])
        self.assertEqual(checked(STOVE), [0, 0, 0, 3])

    def test_beside_an_entry(self):
        self.assertEqual(checked(OUTSIDE, [6, 9]), [0, 0, 0, 3])
        self.assertEqual(checked(OUTSIDE, [0, 4]), [0, 0, 0, 3])
        self.assertEqual(checked(OUTSIDE, [0, 4], [6, 9]), [0, 0, 0, 3])

    def test_other_modes(self):
        self.assertEqual(checked(STOVE, STOVE_ON), [0, 0, 0, 3])
        for mode in ([1, 0, 0, 0], [0, 1, 0, 0], [0, 0, 1, 0]):
            self.assertEqual(checked(STOVE, mode + [10, 20]), [0, 0, 0, 3])

    def test_each_room_counts(self):
        text = lines("room a 9 5 0 9", "room b 9 1 0 9")
        self.assertEqual(checked(text, [5, 5, 1, 1]), [0, 1])
        self.assertEqual(checked(text, [5, 5, 0, 0]), [0, 0, 0, 3])
        self.assertEqual(checked(text, [1, 1, 5, 5]), [0, 0, 0, 3])
        self.assertEqual(checked(text, [5, 5, 0, 0], [4, 4, 1, 1]), [0, 0, 0, 3])

    def test_ahead_of_what_else_is_wrong(self):
        self.assertEqual(checked(OUTSIDE, [6, 10]), [0, 0, 0, 3])
        self.assertEqual(checked(OUTSIDE, [-5, -1], [6, 6]), [0, 0, 0, 3])

    def test_it_is_the_house_s_first_state_whatever_ticks_were_made(self):
        given = ask(build(OUTSIDE), check([5, 5]), tick([2], [], []), check([5, 5]), check([2, 2]), NOW, BEGIN, check([2, 2]))
        self.assertEqual([given[1], given[3]], [[0, 0, 1, 2]] * 2)
        self.assertEqual([given[4], given[7]], [[0, 0, 0, 3]] * 2)


class Band(unittest.TestCase):
    def test_beside_the_band(self):
        self.assertEqual(checked(OUTSIDE, [-1, 9]), [0, 0, 1, 1])
        self.assertEqual(checked(OUTSIDE, [0, 10]), [0, 0, 1, 1])
        self.assertEqual(checked(OUTSIDE, [0, 9], [-1, -1]), [0, 0, 2, 1])
        self.assertEqual(checked(OUTSIDE, [0, 9], [3, 3], [10, 10]), [0, 0, 3, 1])

    def test_wholly_beyond(self):
        self.assertEqual(checked(OUTSIDE, [0, 9], [50, 60]), [0, 0, 2, 1])
        self.assertEqual(checked(OUTSIDE, [0, 9], [-60, -50]), [0, 0, 2, 1])

    def test_each_room_has_its_band(self):
        text = lines("room a 9 5 0 9", "room b 9 1 1 2")
        self.assertEqual(checked(text, [5, 5, 1, 1], [0, 9, 1, 2]), [0, 1])
        for row in ([0, 9, 0, 2], [0, 9, 1, 3], [-1, 9, 1, 2], [0, 10, 1, 2], [1, 2, 0, 9]):
            self.assertEqual(checked(text, [5, 5, 1, 1], row), [0, 0, 2, 1])

    def test_ahead_of_a_post_that_is_not_covered(self):
        text = lines("room a 10 5 0 9", "sky a 10 0 99")
        self.assertEqual(checked(text, [5, 10]), [0, 0, 1, 1])
        self.assertEqual(checked(text, [5, 9]), [0, 0, 1, 2])


class Posts(unittest.TestCase):
    def test_a_post_that_is_not_covered(self):
        self.assertEqual(checked(OUTSIDE, [5, 5]), [0, 0, 1, 2])
        self.assertEqual(checked(OUTSIDE, [1, 9]), [0, 0, 1, 2])
        self.assertEqual(checked(OUTSIDE, [0, 8]), [0, 0, 1, 2])
        self.assertEqual(checked(OUTSIDE, [0, 4], [5, 8]), [0, 0, 1, 2])
        self.assertEqual(checked(OUTSIDE, [0, 3], [5, 9]), [0, 0, 1, 2])

    def test_a_later_entry(self):
        # Two rooms stay as they are if they are alike.
        text = lines("room a 10 0 0 9", "room b 10 0 0 9", "link a b 1")
        self.assertEqual(checked(text, [0, 0, 0, 0]), [0, 1])
        self.assertEqual(checked(text, [0, 0, 0, 0], [9, 9, 0, 0]), [0, 0, 2, 2])
        self.assertEqual(checked(text, [0, 0, 0, 0], [9, 9, 9, 9], [9, 9, 0, 0]), [0, 0, 3, 2])

    def test_modes(self):
        self.assertEqual(checked(STOVE, STOVE_OFF), [0, 0, 1, 2])
        self.assertEqual(checked(STOVE, STOVE_OFF, [1, 0, 1, 0, 12, 21]), [0, 0, 1, 2])
        self.assertEqual(checked(STOVE, STOVE_OFF, [1, 0, 0, 0, 10, 21]), [0, 0, 1, 2])
        self.assertEqual(checked(STOVE, [0, 0, 0, 0, 11, 20], STOVE_ON), [0, 0, 1, 2])
        self.assertEqual(checked(STOVE, STOVE_OFF, STOVE_ON, [0, 2, 0, 0, 15, 15]), [0, 0, 3, 2])

    def test_losses_and_timers(self):
        # Warmer by 1 while the stove is on; each of the modes below is come to.
        text = lines("room a 10 15 10 21", "sky a 10 10 20", "stove s a 10 a 12 18 1 0", "losses 1")
        rows = [
            [0, 0, 0, 0, 10, 20], [1, 1, 1, 0, 11, 21], [1, 1, 0, 1, 10, 20], [0, 0, 0, 1, 10, 20], [1, 0, 1, 0, 11, 21],
            [1, 0, 1, 1, 11, 21], [0, 0, 1, 1, 11, 21], [1, 1, 1, 1, 11, 21], [1, 1, 0, 0, 10, 20],
        ]
        # The last two are come to by none: from [1, 1, 0, 0] a lost message leads to [1, 0, 0, 1].
        self.assertEqual(checked(text, *rows[:7]), [0, 1])
        self.assertEqual(checked(text, *rows[:8]), [0, 1])
        self.assertEqual(checked(text, *rows), [0, 0, 9, 2])
        for left_out in range(1, 7):
            answer = checked(text, *rows[:left_out], *rows[left_out + 1:7])
            self.assertEqual([answer[:2], answer[3]], [[0, 0], 2], rows[left_out])

    def test_the_first_entry_that_is_not_right(self):
        self.assertEqual(checked(OUTSIDE, [5, 5], [10, 12]), [0, 0, 1, 2])
        self.assertEqual(checked(OUTSIDE, [10, 12], [5, 5]), [0, 0, 1, 1])
        self.assertEqual(checked(OUTSIDE, [0, 8], [-1, 8]), [0, 0, 1, 2])

    def test_entries_beyond_the_band_cover_too(self):
        # The first entry's posts are covered by the second one, which isn't right itself.
        self.assertEqual(checked(OUTSIDE, [5, 5], [-1, 9]), [0, 0, 2, 1])
        self.assertEqual(checked(OUTSIDE, [5, 5], [0, 10]), [0, 0, 2, 1])

    def test_a_post_beyond_the_band(self):
        text = lines("room a 10 5 0 9", "sky a 10 0 10")
        self.assertEqual(checked(text, [0, 9]), [0, 0, 1, 2])
        self.assertEqual(checked(text, [0, 9], [10, 10]), [0, 0, 2, 1])

    def test_posts_beyond_what_a_row_may_tell(self):
        text = lines("room a 1 0 -100000 100000", "stove s a 1000000 a 0 1 0 0")
        self.assertEqual(checked(text, [0, 0, 0, 0, -100000, 100000], [1, 0, 1, 0, -100000, 100000]), [0, 0, 1, 2])


class ChangesNothing(unittest.TestCase):
    def test_whatever_is_answered(self):
        for rows in ([STOVE_OFF, STOVE_ON], [STOVE_OFF], [STOVE_ON], [], [[0, 0, 0, 0, 9, 20]], [[0]]):
            given = ask(build(STOVE), tick([10], [0], [0]), NOW, PRINT, check(*rows), NOW, PRINT)
            self.assertEqual(given[5:], given[2:4])


if __name__ == "__main__":
    unittest.main()
