import copy
import itertools
import time
import unittest

from bandhouse.house import answers
from bandhouse.reader import read_calls
from tests.helper import (
    BEGIN, BOUNDS, NOW, PRINT, ask, ask_last, build, check, covered, escape, lines, posts, search, some_house, tick,
)

TEXT = lines("room a 10 5 0 9", "sky a 1 -9 9", "stove s a 10 a 4 6 1 1", "error 1", "losses 1")


def joined(*calls):
    return [number for call in calls for number in call]


MANY = joined(
    PRINT, NOW, build("wrong\n"), build(TEXT), PRINT, tick([0], [0], [0]), tick([99], [0], [0]), NOW,
    posts([0, 0, 0, 0, 0, 9]), posts([]), check([0, 0, 0, 0, 5, 5]), search(1, 40), escape(12), BOUNDS,
    covered([0, 0, 0, 0, 0, 9], [0, 0, 0, 0, 0, 9]), BEGIN, tick([9], [-1], [1]), NOW, check([0]), search(0, 1),
    escape(-1), covered([], []), build(""), NOW, posts([]), tick([], [], []), search(1000, 1), escape(0), BOUNDS,
)


class Answers(unittest.TestCase):
    def test_counts_stand_before_the_answers(self):
        self.assertEqual(answers([4]), [3, 0, 0, 1])
        self.assertEqual(answers([2]), [1, 0])
        self.assertEqual(answers([2, 4, 2]), [1, 0, 3, 0, 0, 1, 1, 0])
        self.assertEqual(answers([0, 0]), [5, 0, 0, 0, 0, 0])
        self.assertEqual(answers([0, 1, 97]), [3, 1, 1, 1])
        self.assertEqual(answers([3, 0, 0, 0]), [2, 0, 1])
        self.assertEqual(answers([3, 1, 5, 0, 0]), [1, -3])
        self.assertEqual(answers([5, 0]), [2, 0, 1])
        self.assertEqual(answers([5, 1, 0]), [1, -2])
        self.assertEqual(answers([6, 0]), [1, -2])
        self.assertEqual(answers([7, 1, 1]), [3, 0, 1, 1])
        self.assertEqual(answers([7, 0, 1]), [1, -2])
        self.assertEqual(answers([8, 0]), [2, 0, 0])
        self.assertEqual(answers([9, 0, 0]), [1, -2])
        self.assertEqual(answers([10]), [3, 0, 0, 0])
        house = build("room a 10 5 0 9\nsky a 10 0 10\n")
        self.assertEqual(answers(house + [6, 2, 5, 5])[6:], [4, 0, 0, 1, 2])
        self.assertEqual(answers(house + [7, 1, 40])[6:], [4, 0, 2, 0, 10])
        self.assertEqual(answers(house + [8, 12])[6:], [4, 0, 1, 1, 10])
        self.assertEqual(answers(house + [9, 2, 3, 4, 4, 3, 3, 4, 4])[6:], [2, 0, 1])
        self.assertEqual(answers(house + [10])[6:], [7, 0, 0, 0, 0, 9, 0, 10])

    def test_all_calls_on_one_object(self):
        house = "room a 10 15 10 20\nsky a 10 10 19\nstove s a 10 a 12 18 0 0\nerror 0\nlosses 0\n"
        off, on = [0, 0, 0, 0, 10, 19], [1, 0, 1, 0, 11, 20]
        given = ask(
            BOUNDS, build(house), check(off, on), search(1, 40), tick([12], [0], [0]), escape(12), check(off), posts(off),
            covered([0, 0, 0, 0, 15, 15], on, off), tick([20], [0], [0]), NOW, BEGIN, NOW, BOUNDS, PRINT, check(on, on[:1]),
        )
        self.assertEqual(given, [
            [0, 0, 0], [0, 1, 0, 1, 1], [0, 1], [0, 1, 3, 0, 0, 0, 0, 15, 15] + off + on, [0, 1, 12, 0, 0, 0, 0], [0, 0],
            [0, 0, 1, 2], [0, 2] + on + off, [0, 1], [-3], [0, 1, 1, 12, 0, 0, 0, 0], [0], [0, 0, 1, 15, 0, 0, 0, 0],
            [0, 0, 0, 10, 20, 10, 19], [0] + list(house.encode()), [-2],
        ])

    def test_calls_that_change_nothing(self):
        """The same ticks lead to the same, whatever is asked between them."""
        shape = lines("room a 8 1 0 9", "room b 8 4 0 9", "link a b 1", "sky a 2 -2 9", "stove s a 9 b 3 5 1 1", "error 1", "losses 1")
        row = [0, 0, 0, 0, 1, 1, 4, 4]
        asked = (
            PRINT, NOW, posts(row), posts(row[1:]), check(row), check(row[1:]), check(*[row] * 9), search(1, 40), search(0, 0),
            escape(12), escape(13), covered(row, row), covered([], row), covered(row, *[row] * 9), BOUNDS,
        )
        ticks = [tick([weather], [error], [loss]) for weather, error, loss in ((-2, 1, 1), (9, -1, 0), (3, 0, 1), (9, 0, 1))]
        alone = ask(build(shape), *ticks, NOW, PRINT)
        for call in asked:
            mixed = ask(build(shape), call, *[one for made in ticks for one in (made, call)], NOW, PRINT)
            self.assertEqual(mixed[2::2][:4], alone[1:5], call)
            self.assertEqual(mixed[-2:], alone[-2:], call)

    def test_several_calls_on_one_object(self):
        house = "room a 10 5 0 9\nsky a 1 -5 5\n"
        given = ask(build(house), tick([-5], [], []), tick([5], [], []), NOW, BEGIN, NOW, posts([5, 5]), PRINT)
        shown = list((house + "error 0\nlosses 0\n").encode())
        self.assertEqual(given, [
            [0, 1, 0, 1, 0], [0, 1, 4], [0, 1, 4], [0, 2, 1, 4], [0], [0, 0, 1, 5], [0, 1, 4, 5], [0] + shown,
        ])

    def test_the_list_is_the_same_afterwards(self):
        handed = copy.deepcopy(MANY)
        answers(handed)
        self.assertEqual(handed, MANY)

    def test_the_same_list_gives_the_same_each_time(self):
        first = answers(MANY)
        answers(joined(build("room z 1 0 0 0\nerror 9\n"), tick([], [], [])))
        self.assertEqual(answers(MANY), first)

    def test_each_time_a_new_house(self):
        answers(joined(build(TEXT), tick([0], [0], [0])))
        self.assertEqual(answers([4, 1]), [3, 0, 0, 1] + [18, 0] + list(b"error 0\nlosses 0\n"))

    def test_what_is_given_back_is_a_list_of_whole_numbers(self):
        given = answers(MANY)
        self.assertIs(type(given), list)
        self.assertTrue(all(type(number) is int for number in given))

    def test_as_many_calls_as_may_be(self):
        text = list(("error 10\n" * 444).encode())
        self.assertEqual(len(answers(joined(*[build(text)] * 7, *[[4]] * 193))), 7 * 6 + 193 * 4)
        house = build(TEXT)
        given = ask(house, *[tick([0], [0], [0])] * 198, NOW)
        self.assertEqual(given[-1][1], 198)


class LongLines(unittest.TestCase):
    """200 calls, six of them search and escape at their widest; seconds are far more than is needed."""

    SECONDS = 60

    def timed(self, *calls):
        self.assertLessEqual(len(calls), 200)
        self.assertLessEqual(len(joined(*calls)), 31000)
        begun = time.monotonic()
        given = ask(*calls)
        self.assertLess(time.monotonic() - begun, self.SECONDS)
        return given

    def house(self, *more):
        return lines(
            "room a 97 0 -100000 100000", "room b 89 10 -100000 100000", "room c 83 20 -100000 100000", "link a b 3",
            "link b c 5", "link a c 7", "sky a 2 -500 100", "sky b 3 -100 1000", "sky c 4 -300 300", "sky a 5 -60 6", *more,
        )

    def test_searches_and_escapes(self):
        stoves = ("stove s a 5000 b 0 30 5 7", "stove t b 7000 c 5 10 7 5", "error 13", "losses 3")
        ticks = [tick([0] * 4, [0, 0], [0, 0])] * 193
        for widest in ([escape(12)] * 6, [search(1, 40)] * 6, [search(1000, 40), escape(12)] * 3):
            given = self.timed(build(self.house(*stoves)), *widest, *ticks)
            self.assertEqual(len(given), 200)
            self.assertEqual(given[-1], ask_last(build(self.house(*stoves)), *ticks))

    def test_certificates_of_many_entries(self):
        # Neither stove is ever switched on; by losses there are four modes, with eight entries each.
        text = self.house("stove s a 1 b -100000 0 0 0", "stove t b 1 c -100000 0 0 0", "losses 1")
        boxes = [joined(*sides) for sides in itertools.product(([-600, 200], [100, 1100]), repeat=3)]
        modes = [[0, 0, 0, first, 0, 0, 0, second] for first in (0, 1) for second in (0, 1)]
        rows = [mode + box for mode in modes for box in boxes]
        whole = modes[0] + [-600, 1100] * 3
        given = self.timed(build(text), *[check(*rows)] * 30, *[covered(whole, *rows)] * 30)
        self.assertEqual(given[1:31], [[0, 1]] * 30)
        self.assertEqual(given[31:], [[0, 1]] * 30)

    def test_entries_that_cut_one_another_often(self):
        text = lines("room a 9 0 -9 9", "room b 9 0 -9 9", "room c 9 0 -9 9")
        wide = [-100, 100]
        slabs = [[10 * number, 10 * number + 5] + wide * 2 for number in (-4, 0, 4)]
        slabs += [wide + [10 * number, 10 * number + 5] + wide for number in (-4, 0, 4)]
        slabs += [wide * 2 + [10 * number, 10 * number + 5] for number in (-2, 2)]
        given = self.timed(build(text), *[covered(wide * 3, *slabs)] * 199)
        self.assertEqual(given[1:], [[0, 0]] * 199)

    def test_many_houses_in_one_line(self):
        texts = [some_house(seed) for seed in range(60)]
        given = self.timed(*joined(*[[build(text), BOUNDS, PRINT] for text in texts]), *[escape(12)] * 6)
        for place, text in enumerate(texts):
            self.assertEqual(given[3 * place:3 * place + 3], ask(build(text), BOUNDS, PRINT))


class Reader(unittest.TestCase):
    def test_how_the_list_tells_each_call(self):
        told = (
            (0, [], [[1, 2]]), (1, [], []), (2, [], []), (3, [], [[5], [], [0, 1]]), (4, [], []), (5, [], [[]]),
            (6, [], [[6, 7, 8]]), (7, [9, -9], []), (8, [3], []), (9, [], [[4], [5, 6]]), (10, [], []), (8, [10], []),
        )
        listed = []
        for number, numbers, rows in told:
            listed += [number] + numbers + joined(*[[len(row)] + row for row in rows])
        read = [(call.number, call.numbers, call.rows) for call in read_calls(listed)]
        self.assertEqual(read, list(told))

    def test_rows_are_copies(self):
        listed = [0, 2, 97, 98, 4]
        read_calls(listed)[0].rows[0].append(99)
        self.assertEqual(listed, [0, 2, 97, 98, 4])


if __name__ == "__main__":
    unittest.main()
