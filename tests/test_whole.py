"""What holds over the whole program: its interface, mirrored lanes, and the signs of a car."""

import inspect
import random
import unittest
from importlib import import_module

from openlane import errors
from openlane.counting import count_lanes, count_orders, nth_lane
from openlane.errors import (
    InvalidCar, InvalidCars, InvalidLane, InvalidLog, InvalidPattern, InvalidSightings, InvalidText, LaneError,
    NotPossible, TooLarge, UnknownCar)
from openlane.histories import count_histories, departure_ranks, history
from openlane.lanes import is_possible, why_not
from openlane.logs import is_lane, is_log, replay
from openlane.patterns import count_matching
from openlane.positions import can_touch, left_ends, left_range
from openlane.sightings import count_agreeing, first_conflict, seen_history
from openlane.stayers import can_stay, why_cannot_stay
from openlane.texts import (
    format_lane, format_log, format_pattern, parse_lane, parse_log, parse_pattern, parse_sides)
from openlane.yard import Yard
from tests import brute
from tests.cases import large_cases, random_sides
from tests.test_stayers import random_log
from tests.test_yard import METHODS

LETTERS = "abcdefghijklmnopqrstuvwxyz"
SIGNS = "".join(chr(code) for code in range(32, 127) if chr(code) != "%")

INTERFACE = {
    "logs": {
        "is_lane": ("value",), "is_log": ("start", "value"), "sizes": ("start", "log"),
        "numbers": ("start", "log"), "replay": ("start", "log", "sides"),
    },
    "stayers": {
        "can_stay": ("start", "log", "cars"), "why_cannot_stay": ("start", "log", "cars"),
        "complete": ("start", "log", "cars"),
    },
    "lanes": {"is_possible": ("start", "log", "lane"), "why_not": ("start", "log", "lane")},
    "histories": {
        "history": ("start", "log", "lane"), "count_histories": ("start", "log", "lane"),
        "departure_ranks": ("start", "log", "lane", "car"),
    },
    "counting": {
        "count_orders": ("start", "log", "cars"), "count_lanes": ("start", "log"),
        "rank_lane": ("start", "log", "lane"), "nth_lane": ("start", "log", "index"),
    },
    "positions": {
        "left_ends": ("start", "log"), "left_range": ("start", "log", "car"),
        "can_touch": ("start", "log", "first", "second"),
    },
    "patterns": {"count_matching": ("start", "log", "pattern"), "first_matching": ("start", "log", "pattern")},
    "sightings": {
        "first_conflict": ("start", "log", "sightings"), "count_agreeing": ("start", "log", "sightings"),
        "seen_history": ("start", "log", "sightings"),
    },
    "yard": {"Yard": ("start",)},
    "texts": {
        "format_lane": ("lane",), "format_log": ("log",), "format_sides": ("sides",), "format_pattern": ("pattern",),
        "parse_lane": ("text",), "parse_log": ("text",), "parse_sides": ("text",), "parse_pattern": ("text",),
    },
}

# Index n is the greatest length of the logs for lanes of n cars.
SMALL = (6, 5, 5, 4, 4, 3)


class TestInterface(unittest.TestCase):

    def test_names_and_arguments(self):
        for file, functions in INTERFACE.items():
            module = import_module("openlane." + file)
            for name, parameters in functions.items():
                found = getattr(module, name)
                self.assertEqual(found.__module__, module.__name__, name)
                self.assertEqual(tuple(inspect.signature(found).parameters), parameters, name)

    def test_methods(self):
        for name in METHODS:
            self.assertTrue(inspect.isfunction(vars(Yard)[name]))

    def test_no_default_but_that_of_the_yard(self):
        for file, functions in INTERFACE.items():
            module = import_module("openlane." + file)
            for name in functions:
                for parameter in inspect.signature(getattr(module, name)).parameters.values():
                    expected = () if name == "Yard" else inspect.Parameter.empty
                    self.assertEqual(parameter.default, expected)

    def test_errors_of_the_functions_are_lane_errors_and_value_errors(self):
        calls = [
            (InvalidLane, lambda: Yard(None)), (InvalidLog, lambda: count_matching((), None, ())),
            (InvalidPattern, lambda: count_matching((), [], None)), (TooLarge, lambda: count_matching(
                tuple(LETTERS[:13]), [], (None,) * 13)),
            (UnknownCar, lambda: count_matching(("s",), [], ("x",))),
            (InvalidSightings, lambda: seen_history((), [], None)), (InvalidCar, lambda: Yard().arrive(None)),
            (InvalidText, lambda: parse_lane(None)), (NotPossible, lambda: Yard().see(("x",))),
            (errors.UsedCar, lambda: Yard(("s",)).arrive("s")), (errors.EmptyLane, lambda: Yard().depart()),
            (errors.NothingToUndo, lambda: Yard().undo()), (errors.InvalidIndex, lambda: Yard().nth_lane(1)),
            (errors.InvalidSides, lambda: import_module("openlane.texts").format_sides(None)),
            (InvalidCars, lambda: can_stay((), [], None)),
        ]
        kinds = [kind for kind, _ in calls]
        self.assertEqual(len(set(kinds)), 15)
        for kind, call in calls:
            with self.assertRaises(kind) as caught:
                call()
            self.assertIsInstance(caught.exception, LaneError)
            self.assertIsInstance(caught.exception, ValueError)
            for other in kinds:
                self.assertIs(isinstance(caught.exception, other), other is kind)


def mirrored_sides(sides):
    return None if sides is None else ["L" if side == "R" else "R" for side in sides]


def mirrored_sightings(sightings):
    return [(moment, lane[::-1]) for moment, lane in sightings]


class TestMirror(unittest.TestCase):

    def cases(self):
        """Small logs, then some longer ones, each with all lanes or some of them."""
        source = random.Random(32)
        for start, log in brute.small_cases(SMALL):
            yield source, start, log
        for _ in range(25):
            start = brute.START_NAMES[:source.randrange(7)]
            yield source, start, random_log(source, start, source.randrange(7, 10), 6)

    def test_replay(self):
        for source, start, log in self.cases():
            sides = random_sides(source, log)
            lane, departed = replay(start, log, sides)
            self.assertEqual(replay(start[::-1], log, mirrored_sides(sides)), (lane[::-1], departed))

    def test_lanes_and_histories(self):
        for source, start, log in self.cases():
            other = start[::-1]
            cars = brute.all_cars(start, log)
            lanes = source.sample(sorted(brute.final_lanes(start, log)), min(6, count_lanes(start, log)))
            for lane in lanes[:4]:
                mixed = source.sample(lane, len(lane))
                if mixed:
                    mixed[0] = source.choice([car for car in cars if car not in mixed[1:]])
                lanes.append(tuple(mixed))
            for lane in lanes:
                back = lane[::-1]
                self.assertIs(is_possible(other, log, back), is_possible(start, log, lane))
                one, two = why_not(start, log, lane), why_not(other, log, back)
                if one is None or one[0] != "order":
                    self.assertEqual(two, one)
                else:
                    self.assertEqual(two[0], "order")
                self.assertEqual(count_histories(other, log, back), count_histories(start, log, lane))
                for car in cars:
                    ranks = departure_ranks(start, log, lane, car)
                    self.assertEqual(departure_ranks(other, log, back, car), ranks)
                sides = mirrored_sides(history(start, log, lane))
                if sides is None:
                    self.assertIsNone(history(other, log, back))
                else:
                    self.assertEqual(replay(other, log, sides)[0], back)

    def test_sets(self):
        for source, start, log in self.cases():
            other = start[::-1]
            cars = brute.all_cars(start, log)
            for _ in range(10):
                given = tuple(source.sample(cars, source.randrange(len(cars) + 1)))
                self.assertIs(can_stay(other, log, given), can_stay(start, log, given))
                self.assertEqual(count_orders(other, log, given), count_orders(start, log, given))
                one, two = why_cannot_stay(start, log, given), why_cannot_stay(other, log, given)
                if one is not None and one[0] == "sides":
                    self.assertEqual(two, ("sides", one[2], one[1], one[3]))
                elif one is not None and one[0] == "block":
                    self.assertEqual(two[0], "block")
                else:
                    self.assertEqual(two, one)

    def test_counts_and_places(self):
        for source, start, log in self.cases():
            other = start[::-1]
            count = count_lanes(start, log)
            self.assertEqual(count_lanes(other, log), count)
            lanes = [nth_lane(start, log, index) for index in range(count)]
            found = {nth_lane(other, log, index)[::-1] for index in range(count)}
            self.assertEqual(found, set(lanes))
            size = len(lanes[0])
            lane = source.choice(lanes)
            pattern = tuple(source.choice((None, car)) for car in lane)
            self.assertEqual(count_matching(other, log, pattern[::-1]), count_matching(start, log, pattern))
            ends = left_ends(other, log)
            for car in brute.all_cars(start, log):
                span = left_range(start, log, car)
                expected = None if span is None else (size - 1 - span[1], size - 1 - span[0])
                self.assertEqual(left_range(other, log, car), expected)
                self.assertIs(car in ends, span is not None and span[1] == size - 1)
                for second in brute.all_cars(start, log):
                    self.assertIs(can_touch(other, log, second, car), can_touch(start, log, car, second))

    def test_sightings(self):
        for source, start, log in self.cases():
            other = start[::-1]
            for _ in range(4):
                lane, sightings = start, []
                for moment, side in enumerate(random_sides(source, log), 1):
                    lane = brute.step(lane, log[moment - 1], side)[0]
                    if source.random() < 0.4:
                        seen = source.sample(lane, len(lane)) if source.random() < 0.2 else lane
                        sightings.append((moment, tuple(seen)))
                back = mirrored_sightings(sightings)
                self.assertEqual(first_conflict(other, log, back), first_conflict(start, log, sightings))
                self.assertEqual(count_agreeing(other, log, back), count_agreeing(start, log, sightings))
                sides = mirrored_sides(seen_history(start, log, sightings))
                self.assertIs(sides is None, seen_history(other, log, back) is None)
                if sides and sightings:
                    length = sightings[-1][0]
                    self.assertEqual(replay(other, log[:length], sides)[0], back[-1][1])

    def test_yards(self):
        for _, start, log in self.cases():
            one, two = Yard(start), Yard(start[::-1])
            for event in log:
                for yard in (one, two):
                    if event[0] == "in":
                        yard.arrive(event[1])
                    else:
                        yard.depart()
            self.assertEqual(set(two.known()), set(one.known()))
            self.assertEqual(two.count_lanes(), one.count_lanes())

    def test_large_cases(self):
        source = random.Random(33)
        for start, log in large_cases()[::4]:
            other = start[::-1]
            lane = replay(start, log, random_sides(source, log))[0]
            back = lane[::-1]
            self.assertEqual(count_lanes(other, log), count_lanes(start, log))
            self.assertIs(is_possible(other, log, back), True)
            self.assertEqual(count_histories(other, log, back), count_histories(start, log, lane))
            self.assertEqual(count_orders(other, log, back), count_orders(start, log, lane))
            seen = [(len(log), lane)]
            self.assertEqual(count_agreeing(other, log, mirrored_sightings(seen)), count_agreeing(start, log, seen))


class TestSigns(unittest.TestCase):
    """Every sign from the space to the tilde is one of a car exactly if it is a small letter."""

    def words(self):
        """Each sign alone and within other words, and whether it is a letter."""
        self.assertEqual(len(SIGNS), 94)
        for sign in SIGNS:
            for word in (sign, sign + "a", "a" + sign, "a" + sign + "b", sign * 4, "xyz" + sign):
                yield word, sign in LETTERS

    def check(self, right, error, call, value, message):
        """The call is answered if the word is right, and raises the error if not."""
        if right:
            return call(value)
        with self.assertRaises(error, msg=message):
            call(value)
        return None

    def test_lanes_and_logs(self):
        for word, right in self.words():
            self.assertIs(is_lane((word,)), right, word)
            self.assertIs(is_lane(("bbb", word, "ccc")), right, word)
            self.assertIs(is_log((), [("in", word)]), right, word)
            self.assertIs(is_log(("zz",), [("out",), ("in", word), ("in", "zx")]), right, word)

    def test_yards(self):
        for word, right in self.words():
            yard = Yard()
            self.check(right, InvalidCar, yard.arrive, word, word)
            self.assertEqual(yard.events(), [("in", word)] if right else [])
            self.check(right, InvalidLane, Yard, (word,), word)
            self.check(right, InvalidLane, Yard().is_possible, (word,), word)
            with self.assertRaises(NotPossible if right else InvalidLane):
                Yard().see((word,))

    def test_texts(self):
        for word, right in self.words():
            self.assertEqual(self.check(right, InvalidLane, format_lane, (word,), word), word if right else None)
            self.assertEqual(
                self.check(right, InvalidLog, format_log, [("in", word)], word), "+" + word if right else None)
            self.assertEqual(self.check(right, InvalidPattern, format_pattern, (word,), word), word if right else None)
            self.assertIs(self.parsed(parse_lane, word) == (word,), right, word)
            self.assertIs(self.parsed(parse_log, "+" + word) == [("in", word)], right, word)
            self.assertIs(self.parsed(parse_pattern, word) == (word,), right, word)

    def parsed(self, parse, text):
        try:
            return parse(text)
        except InvalidText:
            return None

    def test_signs_of_sides(self):
        for sign in SIGNS:
            found = self.parsed(parse_sides, sign)
            self.assertEqual(found, [sign] if sign in "LR" else None)
            found = self.parsed(parse_sides, "L" + sign + "R")
            self.assertEqual(found, ["L", sign, "R"] if sign in "LR" else None)

    def test_texts_of_one_sign(self):
        for sign in SIGNS:
            self.assertEqual(self.parsed(parse_lane, sign), (sign,) if sign in LETTERS else None)
            self.assertEqual(self.parsed(parse_log, sign), [("out",)] if sign == "-" else None)
            expected = (None,) if sign == "?" else (sign,) if sign in LETTERS else None
            self.assertEqual(self.parsed(parse_pattern, sign), expected)

    def test_other_arguments(self):
        for word, right in self.words():
            with self.assertRaises(UnknownCar if right else InvalidCars):
                can_stay(("qq",), [], (word,))
            with self.assertRaises(UnknownCar if right else InvalidPattern):
                count_matching(("qq",), [], (word,))
            self.check(right, InvalidSightings, lambda lane: first_conflict((), [], [(0, lane)]), (word,), word)
            self.check(right, InvalidLane, lambda lane: is_possible((), [], lane), (word,), word)
            with self.assertRaises(UnknownCar):
                left_range((), [], word)


if __name__ == "__main__":
    unittest.main()
