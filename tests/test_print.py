import unittest

from tests.helper import NOW, PRINT, ask, ask_last, build, lines, posts, printed, tick

MIXED = lines(
    "losses 2",
    "room hall 1000 -7 -100000 100000",
    "sky hall 3 -20 -10",
    "stove iron hall 1000000 hall -5 6 0 20",
    "error 12",
    "room attic 50 0 0 0",
    "link attic hall 5",
    "stove tile attic 1 hall -100000 100000 20 0",
    "sky attic 1 0 0",
    "room abcdefghijkl 7 1 -1 1",
    "sky hall 3 -20 -10",
    "link hall abcdefghijkl 1",
    "error 1000",
)

IN_ORDER = lines(
    "room hall 1000 -7 -100000 100000",
    "room attic 50 0 0 0",
    "room abcdefghijkl 7 1 -1 1",
    "link attic hall 5",
    "link hall abcdefghijkl 1",
    "sky hall 3 -20 -10",
    "sky attic 1 0 0",
    "sky hall 3 -20 -10",
    "stove iron hall 1000000 hall -5 6 0 20",
    "stove tile attic 1 hall -100000 100000 20 0",
    "error 1000",
    "losses 2",
)

NOTHING = lines("error 0", "losses 0")


class Print(unittest.TestCase):
    def test_lines_that_came_in_another_order(self):
        self.assertEqual(printed(ask_last(build(MIXED), PRINT)), IN_ORDER)

    def test_a_house_without_anything(self):
        self.assertEqual(printed(ask_last(PRINT)), NOTHING)
        self.assertEqual(printed(ask_last(build(""), PRINT)), NOTHING)
        self.assertEqual(printed(ask_last(build(NOTHING), PRINT)), NOTHING)

    def test_build_of_what_was_printed(self):
        for text in (MIXED, IN_ORDER, "", "losses 3\n", "room a 1 0 0 0\n"):
            house, shown = ask(build(text), PRINT)
            self.assertEqual(ask(build(printed(shown)), PRINT), [house, shown])

    def test_what_was_printed_behaves_the_same(self):
        weather = [-15, 0, -20]
        calls = [tick(weather, [5, -5], [1, 0]), tick(weather, [0, 0], [1, 1]), tick(weather, [0, 0], [0, 0]), NOW]
        calls.append(posts([0, 0, 0, 1, 1, 0, 1, 0, -9, 9, 0, 4, -1, 1]))
        self.assertEqual(ask(build(MIXED), *calls), ask(build(IN_ORDER), *calls))

    def test_it_changes_nothing(self):
        text = lines("room a 9 5 0 9", "sky a 1 0 0")
        given = ask(build(text), tick([0], [], []), NOW, PRINT, NOW, PRINT)
        self.assertEqual(given[2], given[4])
        self.assertEqual(given[3], given[5])

    def test_first_temperatures_are_printed_after_ticks(self):
        text = lines("room a 9 5 0 9", "sky a 9 0 0", "error 0", "losses 0")
        self.assertEqual(printed(ask_last(build(text), tick([0], [], []), PRINT)), text)


if __name__ == "__main__":
    unittest.main()
