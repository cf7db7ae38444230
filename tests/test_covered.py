import itertools
import random
import unittest

from tests.helper import BOUNDS, NOW, PRINT, ask, ask_last, build, check, covered, joined, lines, posts, tick, told

ROOMS = ("room a 9 0 -9 9", "room b 9 0 -9 9", "room c 9 0 -9 9")


def is_covered(rooms, row, *rows):
    """What covered answers, of a house of so many rooms and no stoves."""
    answer = ask_last(build(lines(*ROOMS[:rooms])), covered(row, *rows))
    assert answer in ([0, 0], [0, 1]), answer
    return answer[1] == 1


class OneRoom(unittest.TestCase):
    def test_by_one(self):
        self.assertTrue(is_covered(1, [0, 9], [0, 9]))
        self.assertTrue(is_covered(1, [0, 9], [-1, 10]))
        self.assertTrue(is_covered(1, [3, 3], [0, 9]))
        self.assertTrue(is_covered(1, [3, 3], [3, 3]))
        self.assertTrue(is_covered(1, [0, 9], [20, 30], [0, 9], [-5, -5]))

    def test_one_state_left_out(self):
        self.assertFalse(is_covered(1, [0, 9], [1, 9]))
        self.assertFalse(is_covered(1, [0, 9], [0, 8]))
        self.assertFalse(is_covered(1, [3, 3], [4, 9]))
        self.assertFalse(is_covered(1, [3, 3], [0, 2]))
        self.assertFalse(is_covered(1, [0, 9], [0, 4], [6, 9]))
        self.assertFalse(is_covered(1, [0, 9], [0, 4], [5, 8]))

    def test_by_several_together(self):
        self.assertTrue(is_covered(1, [0, 9], [0, 4], [5, 9]))
        self.assertTrue(is_covered(1, [0, 9], [5, 9], [0, 4]))
        self.assertTrue(is_covered(1, [0, 9], [8, 12], [2, 4], [5, 7], [-3, 1]))
        self.assertTrue(is_covered(1, [0, 7], *[[number, number] for number in range(8)]))

    def test_entries_that_overlap(self):
        self.assertTrue(is_covered(1, [0, 9], [0, 6], [3, 9]))
        self.assertTrue(is_covered(1, [0, 9], [0, 6], [0, 6], [3, 9], [4, 4]))
        self.assertFalse(is_covered(1, [0, 9], [0, 6], [3, 8], [2, 7]))

    def test_no_entries(self):
        self.assertFalse(is_covered(1, [0, 9]))
        self.assertFalse(is_covered(1, [0, 0]))

    def test_the_widest(self):
        self.assertTrue(is_covered(1, [-100000, 100000], [-100000, 0], [1, 100000]))
        self.assertFalse(is_covered(1, [-100000, 100000], [-100000, -1], [1, 100000]))

    def test_the_band_does_not_matter(self):
        self.assertTrue(is_covered(1, [50, 60], [50, 55], [56, 60]))


class SeveralRooms(unittest.TestCase):
    # Four entries round the middle one.
    RING = ([0, 5, 0, 2], [6, 8, 0, 5], [3, 8, 6, 8], [0, 2, 3, 8])

    def test_the_middle_left_out(self):
        self.assertFalse(is_covered(2, [0, 8, 0, 8], *self.RING))
        self.assertTrue(is_covered(2, [0, 8, 0, 8], *self.RING, [3, 5, 3, 5]))
        self.assertTrue(is_covered(2, [0, 8, 0, 8], [3, 5, 3, 5], *self.RING))
        self.assertFalse(is_covered(2, [0, 8, 0, 8], *self.RING, [3, 5, 3, 4]))

    def test_a_corner_left_out(self):
        self.assertFalse(is_covered(2, [0, 9, 0, 9], [0, 8, 0, 9], [0, 9, 0, 8]))
        self.assertTrue(is_covered(2, [0, 9, 0, 9], [0, 8, 0, 9], [0, 9, 0, 8], [9, 9, 9, 9]))
        for corner in itertools.product((0, 9), repeat=3):
            sides = [[0, 9, 0, 9, 0, 9] for side in range(3)]
            for room, end in enumerate(corner):
                sides[room][2 * room:2 * room + 2] = [0, 8] if end == 9 else [1, 9]
            self.assertFalse(is_covered(3, [0, 9] * 3, *sides))
            self.assertTrue(is_covered(3, [0, 9] * 3, *sides, joined([[end, end] for end in corner])))

    def test_apart_in_one_room_alone(self):
        self.assertFalse(is_covered(2, [0, 9, 0, 9], [0, 9, 10, 19]))
        self.assertFalse(is_covered(2, [0, 9, 0, 9], [-9, -1, 0, 9]))

    def test_eight_parts_of_three_rooms(self):
        halves = [joined(parts) for parts in itertools.product(([0, 4], [5, 9]), repeat=3)]
        self.assertTrue(is_covered(3, [0, 9] * 3, *halves))
        for left_out in range(8):
            self.assertFalse(is_covered(3, [0, 9] * 3, *halves[:left_out], *halves[left_out + 1:]))

    def test_state_by_state(self):
        picks = random.Random(9)

        def side(widest):
            least = picks.randint(0, 4)
            return [least, min(4, least + picks.randint(0, widest))]

        def states(row):
            return set(itertools.product(*[range(row[place], row[place + 1] + 1) for place in range(0, len(row), 2)]))

        seen = [0, 0]
        for turn in range(60):
            rooms = turn % 3 + 1
            asked = []
            for again in range(20):
                row = joined([side(4) for room in range(rooms)])
                asked.append((row, [joined([side(4) for room in range(rooms)]) for entry in range(picks.randint(0, 8))]))
            given = ask(build(lines(*ROOMS[:rooms])), *[covered(row, *rows) for row, rows in asked])[1:]
            for (row, rows), answer in zip(asked, given):
                wanted = int(states(row) <= set().union(*[states(one) for one in rows]))
                self.assertEqual(answer, [0, wanted], (row, rows))
                seen[wanted] += 1
        self.assertGreater(min(seen), 200)


class Modes(unittest.TestCase):
    ONE = lines("room a 9 0 -9 9", "stove s a 1 a 0 1 0 0", "losses 2")
    TWO = lines("room a 9 0 -9 9", "stove s a 1 a 0 1 0 0", "stove t a 1 a 0 1 0 0", "losses 2")

    def test_entries_of_other_modes_do_not_count(self):
        row = [0, 0, 0, 0, 0, 9]
        self.assertEqual(ask_last(build(self.ONE), covered(row, row)), [0, 1])
        for place, number in ((0, 1), (1, 1), (1, 20), (2, 1), (3, 1), (3, 2)):
            other = row[:place] + [number] + row[place + 1:]
            self.assertEqual(ask_last(build(self.ONE), covered(row, other)), [0, 0])
            self.assertEqual(ask_last(build(self.ONE), covered(other, row)), [0, 0])
            self.assertEqual(ask_last(build(self.ONE), covered(other, row, other)), [0, 1])

    def test_parts_of_other_modes_do_not_help(self):
        first, second = [0, 0, 0, 0, 0, 4], [0, 0, 0, 0, 5, 9]
        self.assertEqual(ask_last(build(self.ONE), covered([0, 0, 0, 0, 0, 9], first, second)), [0, 1])
        self.assertEqual(ask_last(build(self.ONE), covered([0, 0, 0, 0, 0, 9], first, [0, 1, 0, 0, 5, 9])), [0, 0])

    def test_the_second_stoves_mode(self):
        row = [0, 0, 0, 0, 1, 0, 1, 0, 0, 9]
        self.assertEqual(ask_last(build(self.TWO), covered(row, row)), [0, 1])
        self.assertEqual(ask_last(build(self.TWO), covered(row, row[4:8] + row[:4] + row[8:])), [0, 0])
        for place, number in ((4, 0), (5, 1), (6, 0), (7, 1)):
            self.assertEqual(ask_last(build(self.TWO), covered(row, row[:place] + [number] + row[place + 1:])), [0, 0])


def asked_with(*rows):
    """The two calls that take a list of entries, with the same rows."""
    return covered(rows[0], *rows), check(*rows)


class Refusals(unittest.TestCase):
    """What covered and check refuse alike."""

    TEXT = lines("room a 9 0 -9 9", "room b 9 5 0 9", "sky a 1 0 9", "stove s a 1 b 0 1 0 0", "losses 2")
    ROW = [0, 0, 0, 0, 0, 9, 0, 9]
    WRONG = (
        (0, -1), (0, 2), (1, -1), (1, 21), (2, -1), (2, 2), (3, -1), (3, 3), (4, -100001), (4, 10), (5, -1), (5, 100001),
        (6, -100001), (6, 10), (7, -1), (7, 100001), (0, 10 ** 9), (4, -10 ** 9), (5, 10 ** 9), (1, -10 ** 9),
    )
    LAST_RIGHT = ((0, 1), (1, 20), (2, 1), (3, 2), (4, -100000), (4, 9), (5, 0), (5, 100000), (6, -100000), (7, 100000))

    def changed(self, place, number):
        return self.ROW[:place] + [number] + self.ROW[place + 1:]

    def assert_refused(self, call, refusal):
        before = [build(self.TEXT), tick([9], [0], [1]), NOW, PRINT, BOUNDS]
        given = ask(*before, call, NOW, PRINT, BOUNDS)
        self.assertEqual(given[5], [refusal], call)
        self.assertEqual(given[6:], given[2:5])

    def assert_taken(self, call):
        self.assertEqual(ask_last(build(self.TEXT), call)[0], 0, call)

    def test_rows_that_are_not_right(self):
        for place, number in self.WRONG:
            wrong = self.changed(place, number)
            self.assert_refused(covered(wrong, self.ROW), -2)
            self.assert_refused(covered(wrong), -2)
            for rows in ([wrong], [self.ROW, wrong], [wrong, self.ROW], [self.ROW] * 7 + [wrong]):
                self.assert_refused(covered(self.ROW, *rows), -2)
                self.assert_refused(check(*rows), -2)

    def test_rows_at_the_ends_of_their_ranges(self):
        for place, number in self.LAST_RIGHT:
            row = self.changed(place, number)
            for call in asked_with(row) + asked_with(self.ROW, row):
                self.assert_taken(call)

    def test_an_entry_that_is_not_as_long(self):
        for row in ([], [0], self.ROW[:-1], self.ROW[:-2], self.ROW + [0], self.ROW * 2, self.ROW * 5):
            self.assert_refused(covered(row, self.ROW), -2)

    def test_a_list_that_is_not_whole_rows(self):
        for rows in ([0], self.ROW[:-1], self.ROW[:-2], self.ROW + [0], self.ROW + self.ROW[:-1], self.ROW + self.ROW[:4]):
            self.assert_refused(covered(self.ROW, rows), -2)
            self.assert_refused(check(rows), -2)

    def rows_alike(self, *counts):
        """So many entries of one mode, so many of another .., taken in turns."""
        queues = [[[1, timer, 0, 0, 0, number, 0, 9] for number in range(count)] for timer, count in enumerate(counts)]
        return [row for turn in itertools.zip_longest(*queues) for row in turn if row]

    def test_eight_and_nine_entries_of_the_same_modes(self):
        for call in asked_with(*self.rows_alike(8)) + asked_with(*self.rows_alike(1, 8, 3)):
            self.assert_taken(call)
        for call in asked_with(*self.rows_alike(9)) + asked_with(*self.rows_alike(1, 9, 3)):
            self.assert_refused(call, -4)
        for call in asked_with(*[self.ROW] * 8):
            self.assert_taken(call)
        for call in asked_with(*[self.ROW] * 9):
            self.assert_refused(call, -4)

    def test_the_modes_of_the_single_entry_do_not_count(self):
        self.assert_taken(covered(self.ROW, *[self.ROW] * 8))

    def test_forty_entries_and_more(self):
        for call in asked_with(*self.rows_alike(8, 8, 8, 8, 8)) + asked_with(*self.rows_alike(*[2] * 20)):
            self.assert_taken(call)
        for call in asked_with(*self.rows_alike(8, 8, 8, 8, 8, 1)) + asked_with(*self.rows_alike(*[2] * 20, 1)):
            self.assert_refused(call, -2)

    def test_both_are_due(self):
        nine = self.rows_alike(9)
        self.assert_refused(covered(self.changed(0, 2), *nine), -2)
        self.assert_refused(covered(self.ROW[1:], *nine), -2)
        for call in asked_with(*nine, self.changed(7, 100001)) + asked_with(*nine, [0]):
            self.assert_refused(call, -2)
        for call in asked_with(*self.rows_alike(9, 8, 8, 8, 8)):
            self.assert_refused(call, -2)

    def test_a_house_without_rooms(self):
        for before in ([], [build("")], [build("error 3\nlosses 2\n")]):
            for rows in ([], [0], [0, 0], [0] * 800):
                self.assertEqual(ask_last(*before, check(rows)), [-2])
                self.assertEqual(ask_last(*before, covered([], rows)), [-2])
                self.assertEqual(ask_last(*before, covered([0, 0], rows)), [-2])

    def test_no_entries(self):
        self.assertEqual(ask_last(build(self.TEXT), [9] + told(self.ROW) + [0]), [0, 0])
        self.assertEqual(ask_last(build(self.TEXT), [6, 0]), [0, 0, 0, 3])

    def test_taken_ones_change_nothing_either(self):
        before = [build(self.TEXT), tick([9], [0], [1]), NOW, PRINT, BOUNDS]
        given = ask(*before, covered(self.ROW, self.ROW), check(self.ROW), NOW, PRINT, BOUNDS, posts(self.ROW))
        self.assertEqual(given[7:10], given[2:5])
        self.assertEqual(given[5], [0, 1])


if __name__ == "__main__":
    unittest.main()
