import copy
import unittest

from bandhouse.house import answers
from bandhouse.reader import read_calls
from tests.helper import BEGIN, NOW, PRINT, ask, build, lines, posts, tick

TEXT = lines("room a 10 5 0 9", "sky a 1 -9 9", "stove s a 10 a 4 6 1 1", "error 1", "losses 1")


def joined(*calls):
    return [number for call in calls for number in call]


MANY = joined(
    PRINT, NOW, build("wrong\n"), build(TEXT), PRINT, tick([0], [0], [0]), tick([99], [0], [0]), NOW,
    posts([0, 0, 0, 0, 0, 9]), posts([]), BEGIN, tick([9], [-1], [1]), NOW, build(""), NOW, posts([]), tick([], [], []),
)


class Answers(unittest.TestCase):
    def test_counts_stand_before_the_answers(self):
        self.assertEqual(answers([4]), [3, 0, 0, 1])
        self.assertEqual(answers([2]), [1, 0])
        self.assertEqual(answers([2, 4, 2]), [1, 0, 3, 0, 0, 1, 1, 0])
        self.assertEqual(answers([0, 0]), [5, 0, 0, 0, 0, 0])
        self.assertEqual(answers([0, 1, 97]), [3, 1, 1, 1])
        self.assertEqual(answers([3, 0, 0, 0]), [2, 0, 1])
        self.assertEqual(answers([3, 1, 5, 0, 0]), [1, -3])
        self.assertEqual(answers([5, 0]), [2, 0, 1])
        self.assertEqual(answers([5, 1, 0]), [1, -2])

    def test_several_calls_on_one_object(self):
        house = "room a 10 5 0 9\nsky a 1 -5 5\n"
        given = ask(build(house), tick([-5], [], []), tick([5], [], []), NOW, BEGIN, NOW, posts([5, 5]), PRINT)
        shown = list((house + "error 0\nlosses 0\n").encode())
        self.assertEqual(given, [
            [0, 1, 0, 1, 0], [0, 1, 4], [0, 1, 4], [0, 2, 1, 4], [0], [0, 0, 1, 5], [0, 1, 4, 5], [0] + shown,
        ])

    def test_the_list_is_the_same_afterwards(self):
        handed = copy.deepcopy(MANY)
        answers(handed)
        self.assertEqual(handed, MANY)

    def test_the_same_list_gives_the_same_each_time(self):
        first = answers(MANY)
        answers(joined(build("room z 1 0 0 0\nerror 9\n"), tick([], [], [])))
        self.assertEqual(answers(MANY), first)

    def test_each_time_a_new_house(self):
        answers(joined(build(TEXT), tick([0], [0], [0])))
        self.assertEqual(answers([4, 1]), [3, 0, 0, 1] + [18, 0] + list(b"error 0\nlosses 0\n"))

    def test_what_is_given_back_is_a_list_of_whole_numbers(self):
        given = answers(MANY)
        self.assertIs(type(given), list)
        self.assertTrue(all(type(number) is int for number in given))

    def test_as_many_calls_as_may_be(self):
        text = list(("error 10\n" * 444).encode())
        self.assertEqual(len(answers(joined(*[build(text)] * 7, *[[4]] * 193))), 7 * 6 + 193 * 4)
        house = build(TEXT)
        given = ask(house, *[tick([0], [0], [0])] * 198, NOW)
        self.assertEqual(given[-1][1], 198)


class Reader(unittest.TestCase):
    def test_how_the_list_tells_each_call(self):
        told = (
            (0, [], [[1, 2]]), (1, [], []), (2, [], []), (3, [], [[5], [], [0, 1]]), (4, [], []), (5, [], [[]]),
            (6, [], [[6, 7, 8]]), (7, [9, -9], []), (8, [3], []), (9, [], [[4], [5, 6]]), (10, [], []), (8, [10], []),
        )
        listed = []
        for number, numbers, rows in told:
            listed += [number] + numbers + joined(*[[len(row)] + row for row in rows])
        read = [(call.number, call.numbers, call.rows) for call in read_calls(listed)]
        self.assertEqual(read, list(told))

    def test_rows_are_copies(self):
        listed = [0, 2, 97, 98, 4]
        read_calls(listed)[0].rows[0].append(99)
        self.assertEqual(listed, [0, 2, 97, 98, 4])


if __name__ == "__main__":
    unittest.main()
