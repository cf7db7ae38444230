import unittest

from tests.helper import BEGIN, BOUNDS, NOW, PRINT, ask, ask_last, build, lines, tick


class Bounds(unittest.TestCase):
    def test_before_the_first_call(self):
        self.assertEqual(ask(BOUNDS, build(""), BOUNDS), [[0, 0, 0], [0, 0, 0, 0, 0], [0, 0, 0]])

    def test_error_and_losses(self):
        self.assertEqual(ask_last(build("losses 3\nerror 1000\n"), BOUNDS), [0, 1000, 3])
        self.assertEqual(ask_last(build("losses 3\nerror 1000\nlosses 1\nerror 7\n"), BOUNDS), [0, 7, 1])

    def test_rooms_and_skies_in_their_order(self):
        text = lines(
            "room b 9 1 -2 3", "sky b 1 -40 50", "losses 2", "room a 9 5 5 5", "sky a 2 -100000 100000", "error 4",
            "room c 9 -70000 -100000 -60000", "link a b 1", "sky b 1 6 6", "stove s a 99 b 20 30 4 5", "sky c 1 7 8",
        )
        bounds = [0, 4, 2, -2, 3, 5, 5, -100000, -60000, -40, 50, -100000, 100000, 6, 6, 7, 8]
        self.assertEqual(ask_last(build(text), BOUNDS), bounds)

    def test_rooms_alone(self):
        self.assertEqual(ask_last(build("room a 1 0 -1 2\n"), BOUNDS), [0, 0, 0, -1, 2])

    def test_the_house_built_last(self):
        given = ask(build("room a 1 0 -1 2\nerror 5\n"), build("room a 1 0 -3 4\nlosses 1\n"), BOUNDS, build("wrong\n"), BOUNDS)
        self.assertEqual(given[2], [0, 0, 1, -3, 4])
        self.assertEqual(given[4], given[2])

    def test_it_changes_nothing_and_ticks_do_not_change_it(self):
        text = lines("room a 9 5 0 9", "sky a 9 0 20", "error 1")
        given = ask(build(text), BOUNDS, tick([20], [], []), NOW, PRINT, BOUNDS, NOW, PRINT, BEGIN, BOUNDS)
        self.assertEqual(given[1], [0, 1, 0, 0, 9, 0, 20])
        self.assertEqual(given[6:8], given[3:5])
        self.assertEqual([given[5], given[9]], [given[1]] * 2)


if __name__ == "__main__":
    unittest.main()
