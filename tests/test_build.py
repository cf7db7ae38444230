import unittest

from tests.helper import NOW, PRINT, ask, ask_last, build, built, lines, printed, tick

ROOMS = ("room a 1000 0 -5 5", "room b 1000 0 -5 5", "room c 1000 0 -5 5")

RIGHT_LINES = (
    "room d 1 0 0 0",
    "link a b 1",
    "sky a 1 0 0",
    "stove s a 1 b 0 1 0 0",
    "error 0",
    "losses 0",
)


def reason(*rows):
    """What build answers for rooms a and b and these lines; the line's number is of these alone."""
    answer = built(lines(*ROOMS[:2], *rows))
    if answer[0] == 0:
        return 0
    return (answer[1] - 2, answer[2])


class Right(unittest.TestCase):
    def test_empty_text(self):
        self.assertEqual(built(""), [0, 0, 0, 0, 0])

    def test_counts(self):
        text = lines(*ROOMS, "link a b 1", "link b c 1", "sky a 1 0 1", "sky a 2 0 1", "sky b 1 0 1", "stove s a 1 a 0 1 0 0")
        self.assertEqual(built(text), [0, 3, 2, 3, 1])

    def test_every_kind_of_line(self):
        for line in RIGHT_LINES:
            self.assertEqual(reason(line), 0, line)

    def test_lines_in_any_order_after_their_rooms(self):
        text = lines("losses 1", "room a 9 0 0 0", "stove s a 1 a 0 1 0 0", "error 3", "room b 9 0 0 0", "sky a 1 0 0", "link b a 1")
        self.assertEqual(built(text), [0, 2, 1, 1, 1])

    def test_first_words_may_be_names(self):
        self.assertEqual(built(lines("room room 9 0 0 0", "room link 9 0 0 0", "link room link 1")), [0, 2, 1, 0, 0])

    def test_a_stove_may_stand_in_one_room_and_read_another(self):
        self.assertEqual(reason("stove s a 1 b 0 1 0 0", "stove t b 1 a 0 1 0 0"), 0)

    def test_error_and_losses_told_again_the_last_counts(self):
        text = lines("error 7", "losses 3", "error 1000", "losses 1", "error 4", "losses 2")
        answer = ask_last(build(text), PRINT)
        self.assertEqual(printed(answer), "error 4\nlosses 2\n")

    def test_error_and_losses_are_0_if_not_told(self):
        self.assertEqual(printed(ask_last(build(lines(ROOMS[0])), PRINT)), ROOMS[0] + "\nerror 0\nlosses 0\n")

    def test_error_and_losses_of_an_earlier_house_do_not_stay(self):
        answer = ask_last(build("error 7\nlosses 3\n"), build(""), PRINT)
        self.assertEqual(printed(answer), "error 0\nlosses 0\n")


class NoForm(unittest.TestCase):
    def assert_no_form(self, line):
        self.assertEqual(reason(line), (1, 1), repr(line))

    def test_an_empty_line(self):
        self.assert_no_form("")
        self.assertEqual(built("\n"), [1, 1, 1])
        self.assertEqual(built("room a 1 0 0 0\n\n"), [1, 2, 1])

    def test_unknown_first_words(self):
        for line in ("rooms d 1 0 0 0", "Room d 1 0 0 0", "d", "1", "errors 0", "loss 0", "house", "roo d 1 0 0 0", "?"):
            self.assert_no_form(line)

    def test_a_word_too_few_or_too_many(self):
        for line in RIGHT_LINES:
            self.assert_no_form(line.rpartition(" ")[0])
            self.assert_no_form(line + " 0")
            self.assert_no_form(line.partition(" ")[0])

    def test_blanks_at_the_ends_or_two_in_a_row(self):
        for line in RIGHT_LINES:
            self.assert_no_form(" " + line)
            self.assert_no_form(line + " ")
            for place, sign in enumerate(line):
                if sign == " ":
                    self.assert_no_form(line[:place] + "  " + line[place + 1:])
                    self.assert_no_form(line[:place] + "\t" + line[place + 1:])

    def test_other_bytes(self):
        for line in RIGHT_LINES:
            for byte in (0, 9, 13, 31, 33, 43, 47, 58, 64, 91, 95, 96, 123, 127, 128, 160, 178, 255):
                self.assert_no_form(line + chr(byte))

    def test_numbers_in_another_writing(self):
        for line in RIGHT_LINES:
            front = line.rpartition(" ")[0]
            for word in ("", "-", "-0", "00", "01", "-01", "+1", "--1", "1-", "a", "1a", "0x1", "1.0", "1e0", "1_0"):
                self.assert_no_form(front + " " + word)

    def test_zeros_in_front_in_each_place(self):
        for line in RIGHT_LINES:
            words = line.split(" ")
            for place, word in enumerate(words):
                if word.isdigit():
                    for wrong in ("0" + word, "-0", "-0" + word, "0000000" + word):
                        self.assert_no_form(" ".join(words[:place] + [wrong] + words[place + 1:]))

    def test_zeros_in_front_of_numbers_below_0(self):
        self.assertEqual(reason("sky a 1 -1 0"), 0)
        self.assert_no_form("sky a 1 -01 0")

    def test_eight_digits(self):
        self.assert_no_form("stove s a 10000000 a 0 1 0 0")
        self.assert_no_form("sky a 1 -10000000 0")

    def test_names_that_are_none(self):
        for name in ("", "A", "1", "1a", "-a", "a-", "a_b", "aB", "a.b", "?", "abcdefghijklm", "\xe4"):
            self.assert_no_form("room " + name + " 1 0 0 0")
            self.assert_no_form("link " + name + " a 1")
            self.assert_no_form("link a " + name + " 1")
            self.assert_no_form("sky " + name + " 1 0 0")
            self.assert_no_form("stove " + name + " a 1 b 0 1 0 0")
            self.assert_no_form("stove s " + name + " 1 b 0 1 0 0")
            self.assert_no_form("stove s a 1 " + name + " 0 1 0 0")

    def test_names_at_their_shortest_and_longest(self):
        for name in ("z", "d0", "d9", "z99999999999", "abcdefghijkl"):
            text = lines("room " + name + " 9 0 0 0", "room a 9 0 0 0", "link " + name + " a 1", "sky " + name + " 1 0 0")
            self.assertEqual(built(text), [0, 2, 1, 1, 0])
            self.assertEqual(reason("stove " + name + " a 1 b 0 1 0 0"), 0)


class Ranges(unittest.TestCase):
    def assert_range(self, front, back, low, high):
        for number in (low, high):
            self.assertEqual(reason(front + str(number) + back), 0, front + str(number) + back)
        for number in (low - 1, high + 1, -9999999, 9999999):
            self.assertEqual(reason(front + str(number) + back), (1, 1), front + str(number) + back)

    def test_room(self):
        self.assert_range("room d ", " 0 0 0", 1, 1000)
        self.assert_range("room d 1 ", " -100000 100000", -100000, 100000)
        self.assert_range("room d 1 100000 ", " 100000", -100000, 100000)
        self.assert_range("room d 1 -100000 -100000 ", "", -100000, 100000)

    def test_link(self):
        self.assert_range("link a b ", "", 1, 1000)

    def test_sky(self):
        self.assert_range("sky a ", " 0 0", 1, 1000)
        self.assert_range("sky a 1 ", " 100000", -100000, 100000)
        self.assert_range("sky a 1 -100000 ", "", -100000, 100000)

    def test_stove(self):
        self.assert_range("stove s a ", " b 0 1 0 0", 1, 1000000)
        self.assert_range("stove s a 1 b 0 1 ", " 0", 0, 20)
        self.assert_range("stove s a 1 b 0 1 0 ", "", 0, 20)

    def test_on_and_off(self):
        self.assertEqual(reason("stove s a 1 b -100000 -99999 0 0"), 0)
        self.assertEqual(reason("stove s a 1 b 99999 100000 0 0"), 0)
        self.assertEqual(reason("stove s a 1 b 100000 100000 0 0"), (1, 5))
        self.assertEqual(reason("stove s a 1 b -100000 -100000 0 0"), (1, 5))
        self.assertEqual(reason("stove s a 1 b -100001 0 0 0"), (1, 1))
        self.assertEqual(reason("stove s a 1 b 100001 0 0 0"), (1, 1))
        self.assertEqual(reason("stove s a 1 b 0 100001 0 0"), (1, 1))
        self.assertEqual(reason("stove s a 1 b 0 -100001 0 0"), (1, 1))

    def test_error_and_losses(self):
        self.assert_range("error ", "", 0, 1000)
        self.assert_range("losses ", "", 0, 3)


class NamesAndRooms(unittest.TestCase):
    def test_a_name_that_is_there(self):
        stove = "stove s a 1 b 0 1 0 0"
        self.assertEqual(reason("room a 1 0 0 0"), (1, 2))
        self.assertEqual(reason("room b 1 0 0 0"), (1, 2))
        self.assertEqual(reason("stove a a 1 b 0 1 0 0"), (1, 2))
        self.assertEqual(reason("stove b a 1 a 0 1 0 0"), (1, 2))
        self.assertEqual(reason(stove, stove), (2, 2))
        self.assertEqual(reason(stove, "room s 1 0 0 0"), (2, 2))

    def test_names_that_only_begin_alike(self):
        self.assertEqual(reason("room aa 1 0 0 0", "stove a1 a 1 b 0 1 0 0"), 0)

    def test_a_room_that_is_not_there(self):
        for line in ("link x a 1", "link a x 1", "link x x 1", "sky x 1 0 0", "stove s x 1 a 0 1 0 0", "stove s a 1 x 0 1 0 0"):
            self.assertEqual(reason(line), (1, 3), line)

    def test_a_stove_is_no_room(self):
        stove = "stove s a 1 b 0 1 0 0"
        for line in ("link s a 1", "link a s 1", "sky s 1 0 0", "stove t s 1 a 0 1 0 0", "stove t a 1 s 0 1 0 0"):
            self.assertEqual(reason(stove, line), (2, 3), line)

    def test_a_stove_does_not_name_itself(self):
        self.assertEqual(reason("stove s s 1 s 0 1 0 0"), (1, 3))

    def test_rooms_are_told_before_what_names_them(self):
        self.assertEqual(reason("sky d 1 0 0", "room d 1 0 0 0"), (1, 3))

    def test_rooms_of_an_earlier_house_are_not_there(self):
        self.assertEqual(ask_last(build(lines(*ROOMS)), build("sky a 1 0 0\n")), [1, 1, 3])


class Most(unittest.TestCase):
    def test_rooms(self):
        self.assertEqual(built(lines(*ROOMS)), [0, 3, 0, 0, 0])
        self.assertEqual(built(lines(*ROOMS, "room d 1 0 0 0")), [1, 4, 4])

    def test_links(self):
        links = ("link a b 1", "link c b 1", "link a c 1")
        self.assertEqual(built(lines(*ROOMS, *links)), [0, 3, 3, 0, 0])
        self.assertEqual(built(lines(*ROOMS, *links, "link a b 1")), [1, 7, 4])
        self.assertEqual(built(lines(*ROOMS, *links, "link a a 1")), [1, 7, 4])

    def test_skies(self):
        skies = ("sky a 1 0 0",) * 3 + ("sky b 1 0 0",)
        self.assertEqual(built(lines(*ROOMS, *skies)), [0, 3, 0, 4, 0])
        self.assertEqual(built(lines(*ROOMS, *skies, "sky c 1 0 0")), [1, 8, 4])

    def test_stoves(self):
        stoves = ("stove s a 1 a 0 1 0 0", "stove t a 1 a 0 1 0 0")
        self.assertEqual(built(lines(*ROOMS, *stoves)), [0, 3, 0, 0, 2])
        self.assertEqual(built(lines(*ROOMS, *stoves, "stove u a 1 a 0 1 0 0")), [1, 6, 4])

    def test_error_and_losses_as_often_as_one_likes(self):
        self.assertEqual(built("error 1\nlosses 1\n" * 100), [0, 0, 0, 0, 0])


class CanNotBe(unittest.TestCase):
    def test_a_first_temperature_at_and_beside_the_band(self):
        self.assertEqual(reason("room d 1 -3 -3 4"), 0)
        self.assertEqual(reason("room d 1 4 -3 4"), 0)
        self.assertEqual(reason("room d 1 -4 -3 4"), (1, 5))
        self.assertEqual(reason("room d 1 5 -3 4"), (1, 5))

    def test_a_band_the_wrong_way_round(self):
        self.assertEqual(reason("room d 1 0 1 -1"), (1, 5))
        self.assertEqual(reason("room d 1 1 1 0"), (1, 5))

    def test_links(self):
        self.assertEqual(reason("link a a 1"), (1, 5))
        self.assertEqual(reason("link a b 1", "link a b 2"), (2, 5))
        self.assertEqual(reason("link a b 1", "link b a 1"), (2, 5))

    def test_skies(self):
        self.assertEqual(reason("sky a 1 3 3"), 0)
        self.assertEqual(reason("sky a 1 4 3"), (1, 5))

    def test_stoves(self):
        self.assertEqual(reason("stove s a 1 b 4 5 0 0"), 0)
        self.assertEqual(reason("stove s a 1 b 5 5 0 0"), (1, 5))
        self.assertEqual(reason("stove s a 1 b 6 5 0 0"), (1, 5))


class Several(unittest.TestCase):
    """A line with several reasons: the first of them is told."""

    def full(self, line):
        rooms = ROOMS
        more = ("link a b 1", "link b c 1", "link c a 1", *("sky a 1 0 0",) * 4)
        stoves = ("stove s a 1 a 0 1 0 0", "stove t a 1 a 0 1 0 0")
        answer = built(lines(*rooms, *more, *stoves, line))
        self.assertEqual(answer[:2], [1, 13])
        return answer[2]

    def test_room(self):
        self.assertEqual(self.full("room a 0 9 0 1"), 1)
        self.assertEqual(self.full("room a 1 9 0 1"), 2)
        self.assertEqual(self.full("room s 1 9 0 1"), 2)
        self.assertEqual(self.full("room d 1 9 0 1"), 4)
        self.assertEqual(reason("room a 1 9 0 1"), (1, 2))
        self.assertEqual(reason("room d 1001 9 0 1"), (1, 1))

    def test_link(self):
        self.assertEqual(self.full("link x x 0"), 1)
        self.assertEqual(self.full("link x x 1"), 3)
        self.assertEqual(self.full("link a x 1"), 3)
        self.assertEqual(self.full("link a a 1"), 4)
        self.assertEqual(reason("link a a 0"), (1, 1))
        self.assertEqual(reason("link x x 1"), (1, 3))

    def test_sky(self):
        self.assertEqual(self.full("sky x 1001 2 1"), 1)
        self.assertEqual(self.full("sky x 1 2 1"), 3)
        self.assertEqual(self.full("sky a 1 2 1"), 4)
        self.assertEqual(reason("sky x 1 2 1"), (1, 3))

    def test_stove(self):
        self.assertEqual(self.full("stove s x 1 x 1 1 0 21"), 1)
        self.assertEqual(self.full("stove s x 1 x 1 1 0 0"), 2)
        self.assertEqual(self.full("stove a x 1 x 1 1 0 0"), 2)
        self.assertEqual(self.full("stove u a 1 x 1 1 0 0"), 3)
        self.assertEqual(self.full("stove u a 1 a 1 1 0 0"), 4)
        self.assertEqual(reason("stove a x 1 x 1 1 0 0"), (1, 2))
        self.assertEqual(reason("stove u x 1 a 1 1 0 0"), (1, 3))

    def test_the_first_wrong_line_is_told(self):
        self.assertEqual(reason("sky a 1 2 1", "nothing"), (1, 5))
        self.assertEqual(reason("error 0", "link a x 1", "room a 1 0 0 0"), (2, 3))
        self.assertEqual(reason("error 1001", "losses 4"), (1, 1))
        self.assertEqual(reason("losses 4", "error 1001"), (1, 1))

    def test_a_wrong_line_comes_before_a_room_that_is_not_steady(self):
        self.assertEqual(reason("room d 1 0 0 0", "sky d 2 0 0", "sky d 1 1 0"), (3, 5))


class NotEnded(unittest.TestCase):
    def test_the_last_line_is_not_ended(self):
        self.assertEqual(built("room a 1 0 0 0"), [1, 1, 1])
        self.assertEqual(built("room a 1 0 0 0\nerror 1"), [1, 2, 1])
        self.assertEqual(built(" "), [1, 1, 1])
        self.assertEqual(built("\n\n "), [1, 3, 1])

    def test_it_comes_before_all_others(self):
        self.assertEqual(built("nothing\nroom a 1 9 0 0\nerror 0"), [1, 3, 1])
        self.assertEqual(built("room a 1 0 0 0\nsky a 2 0 0\nerror 0"), [1, 3, 1])

    def test_a_byte_13_ends_no_line(self):
        self.assertEqual(built("error 0\rerror 0\r"), [1, 1, 1])
        self.assertEqual(built("error 0\r\n"), [1, 1, 1])

    def test_longest_text(self):
        text = "error 10\n" * 444
        self.assertEqual(built(text + "a b"), [1, 445, 1])
        self.assertEqual(built(text + "a b\n"), [1, 445, 1])
        self.assertEqual(built(text), [0, 0, 0, 0, 0])


class Steady(unittest.TestCase):
    def test_links_and_skies_add_up(self):
        rows = ("room a 6 0 0 0", "room b 9 0 0 0", "room c 9 0 0 0", "link a b 1", "link c a 2", "sky a 2 0 0")
        self.assertEqual(built(lines(*rows, "sky a 1 0 0")), [0, 3, 2, 2, 0])
        self.assertEqual(built(lines(*rows, "sky a 2 0 0")), [1, 1, 6])

    def test_the_room_is_told_not_the_line(self):
        rows = ("error 1", "room a 9 0 0 0", "room b 1 0 0 0", "room c 1 0 0 0")
        self.assertEqual(built(lines(*rows, "sky c 2 0 0", "sky b 2 0 0")), [1, 2, 6])
        self.assertEqual(built(lines(*rows, "sky c 2 0 0", "sky b 1 0 0")), [1, 3, 6])
        self.assertEqual(built(lines(*rows, "sky c 1 0 0", "link a b 1")), [0, 3, 1, 1, 0])
        self.assertEqual(built(lines(*rows, "sky c 1 0 0", "link c a 1")), [1, 3, 6])
        self.assertEqual(built(lines(*rows, "link b a 2")), [1, 2, 6])

    def test_other_rooms_do_not_count(self):
        rows = ("room a 1 0 0 0", "room b 9 0 0 0", "room c 9 0 0 0", "link b c 5", "sky b 4 0 0")
        self.assertEqual(built(lines(*rows)), [0, 3, 1, 1, 0])

    def test_heat_does_not_count(self):
        self.assertEqual(built(lines("room a 1 0 0 0", "stove s a 1000000 a 0 1 0 0")), [0, 1, 0, 0, 1])


class NothingChanges(unittest.TestCase):
    def test_a_wrong_text_changes_nothing(self):
        text = lines("room a 10 1 0 9", "sky a 1 -9 9", "stove s a 40 a 1 5 2 2", "error 1", "losses 1")
        wrong = ("nothing\n", "error 9\nroom b 1 1 0 0\n", "room b 1 0 0 0\nsky b 2 0 0\n", "error 1", "room z 1 0 0 0\nlink z z 1\n")
        calls = [build(text), tick([0], [1], [1]), tick([9], [0], [0]), NOW, PRINT]
        for one in wrong:
            calls = calls + [build(one), NOW, PRINT]
        given = ask(*calls)
        now = given[3]
        self.assertEqual(now[1], 2)
        for place, one in enumerate(wrong):
            self.assertEqual(given[5 + 3 * place][0], 1, one)
            self.assertEqual(given[6 + 3 * place], now)
            self.assertEqual(given[7 + 3 * place], given[4])
        self.assertEqual(printed(given[4]), text)

    def test_before_the_first_call(self):
        self.assertEqual(ask(build("x\n"), NOW), [[1, 1, 1], [0, 0, 1]])


if __name__ == "__main__":
    unittest.main()
