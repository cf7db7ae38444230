"""The promises 1 and 2, over many small houses; the third one stands in test_posts."""

import itertools
import unittest

from tests.helper import (
    ask, ask_last, build, check, escape, house_of, inputs_in, lines, plain_tick, posts, search, some_house, split_rows, tick,
)

GRIDS = (1, 2, 3, 5, 20)


def width_of(house):
    return 4 * len(house.stoves) + 2 * len(house.rooms)


def certificates(text):
    """The certificates, as rows, that searches find in a house."""
    answers = ask(build(text), *[search(grid, 40) for grid in GRIDS])[1:]
    return [split_rows(answer[3:], width_of(house_of(text))) for answer in answers if answer[1] == 1]


def states_of(house, row):
    stoves = 4 * len(house.stoves)
    modes = tuple(tuple(row[place:place + 4]) for place in range(0, stoves, 4))
    boxes = [range(row[place], row[place + 1] + 1) for place in range(stoves, len(row), 2)]
    return {(temperatures, modes) for temperatures in itertools.product(*boxes)}


def lawful_inputs(house):
    """All lawful inputs, and those with losses that a mode may forbid."""
    weathers = itertools.product(*[range(sky.lo, sky.hi + 1) for sky in house.skies])
    errors = itertools.product(range(-house.error, house.error + 1), repeat=len(house.stoves))
    losses = itertools.product((0, 1), repeat=len(house.stoves))
    return list(itertools.product(weathers, errors, losses))


def is_in_band(house, state):
    return all(room.low <= here <= room.high for room, here in zip(house.rooms, state[0]))


def ends_of(house, states):
    """All states that a tick from one of these leads to."""
    after = {plain_tick(house, *state, *given) for state in states for given in lawful_inputs(house)}
    return after - {None}


def reached(house):
    """All states that runs from the first one lead to, in as many ticks as it takes."""
    state = (tuple(room.first for room in house.rooms), ((0, 0, 0, 0),) * len(house.stoves))
    seen = {state}
    fresh = seen
    while fresh:
        fresh = ends_of(house, fresh) - seen
        seen = seen | fresh
    return seen


def effort(house, rows):
    return sum(len(states_of(house, row)) for row in rows) * len(lawful_inputs(house))


class PromiseOne(unittest.TestCase):
    def assert_kept(self, text, rows):
        """Each tick from a state of an accepted certificate leads to one that is in it and in the band."""
        house = house_of(text)
        self.assertEqual(ask_last(build(text), check(*rows)), [0, 1])
        states = set().union(*[states_of(house, row) for row in rows])
        self.assertTrue(all(is_in_band(house, state) for state in states))
        self.assertLessEqual(ends_of(house, states), states, text)

    def test_tick_by_tick_from_each_state_of_an_entry(self):
        kept = 0
        for seed in range(300):
            text = some_house(seed)
            for rows in certificates(text):
                if effort(house_of(text), rows) < 4000:
                    self.assert_kept(text, rows)
                    kept += 1
        self.assertGreater(kept, 100)

    def test_run_by_run_from_the_first_state(self):
        tried = 0
        for seed in range(300):
            text = some_house(seed)
            house = house_of(text)
            found = [rows for rows in certificates(text) if effort(house, rows) < 4000]
            if found:
                states = reached(house)
                self.assertTrue(all(is_in_band(house, state) for state in states), text)
                for rows in found:
                    self.assertLessEqual(states, set().union(*[states_of(house, row) for row in rows]))
                tried += 1
        self.assertGreater(tried, 40)

    def test_certificates_that_no_search_made(self):
        """Lists of the whole band for some modes are accepted just where no tick leads out of them."""
        seen = {True: 0, False: 0}
        for losses, low, high, heat, cold in itertools.product((0, 1), (-3, -1), (1, 3), (1, 4, 8), (-4, 0)):
            modes = list(itertools.product((0, 1), (0,), (0, 1), range(losses + 1)))
            stove = f"stove s a {heat} a -1 1 0 0"
            text = lines(f"room a 4 0 {low} {high}", f"sky a 1 {cold} 2", stove, f"losses {losses}")
            house = house_of(text)
            # The first state's mode is always among them.
            for chosen in range(1, 2 ** len(modes), 2):
                rows = [list(mode) + [low, high] for number, mode in enumerate(modes) if chosen >> number & 1]
                states = set().union(*[states_of(house, row) for row in rows])
                kept = ends_of(house, states) <= states
                self.assertEqual(ask_last(build(text), check(*rows)) == [0, 1], kept, (text, rows))
                seen[kept] += 1
        self.assertGreater(min(seen.values()), 20, seen)


class PromiseTwo(unittest.TestCase):
    def test_check_accepts_what_search_tells(self):
        accepted = 0
        for seed in range(600):
            text = some_house(seed)
            for rows in certificates(text):
                self.assertEqual(ask_last(build(text), check(*rows)), [0, 1], text)
                accepted += 1
        self.assertGreater(accepted, 500)

    def assert_escapes(self, text, answer):
        """Tick by tick: each input is lawful, and only the last one leads out of the band."""
        inputs = inputs_in(house_of(text), answer)
        given = ask(build(text), *[tick(*one) for one in inputs])[1:]
        self.assertEqual([one[0] for one in given], [0] * len(inputs), text)
        self.assertEqual([one[1] for one in given], [1] * (len(inputs) - 1) + [0], text)

    def test_what_escape_tells_is_lawful_and_leaves_the_band(self):
        found = 0
        for seed in range(600):
            text = some_house(seed)
            answer = ask_last(build(text), escape(12))
            if answer != [0, 0]:
                self.assert_escapes(text, answer)
                found += 1
        self.assertGreater(found, 300)

    def test_never_both(self):
        told = {(False, False): 0, (False, True): 0, (True, False): 0, (True, True): 0}
        for seed in range(1000):
            text = some_house(seed)
            given = ask(build(text), *[search(grid, 40) for grid in GRIDS], escape(12))[1:]
            told[(any(answer[1] == 1 for answer in given[:-1]), given[-1][1] == 1)] += 1
        self.assertEqual(told[(True, True)], 0)
        self.assertGreater(min(told[(True, False)], told[(False, True)]), 200)

    def test_whoever_leaves_the_band_has_no_certificate(self):
        """Neither by a list that search tells, nor where an escape by other inputs than extreme ones is known."""
        left = 0
        for seed in range(200):
            text = some_house(seed)
            house = house_of(text)
            if len(house.rooms) == 1 and len(house.stoves) < 2:
                outside = not all(is_in_band(house, state) for state in reached(house))
                if outside:
                    self.assertEqual(certificates(text), [], text)
                    left += 1
        self.assertGreater(left, 30)


class PromiseThree(unittest.TestCase):
    def test_each_state_after_a_tick_is_in_a_post(self):
        for seed in range(150):
            text = some_house(seed)
            house = house_of(text)
            for rows in certificates(text)[:1]:
                if effort(house, rows) < 4000:
                    given = ask(build(text), *[posts(row) for row in rows])[1:]
                    for row, answer in zip(rows, given):
                        after = split_rows(answer[2:], width_of(house))
                        self.assertEqual(len(after), answer[1])
                        states = set().union(*[states_of(house, post) for post in after])
                        self.assertLessEqual(ends_of(house, states_of(house, row)), states)


if __name__ == "__main__":
    unittest.main()
