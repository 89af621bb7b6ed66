"""[21]: where a car can stand in possible final lanes, and beside which other cars."""

import random
import unittest

from openlane.errors import InvalidLane, InvalidLog, UnknownCar
from openlane.logs import replay
from openlane.positions import can_touch, left_ends, left_range
from tests import brute
from tests.brute import FIVE_EVENTS
from tests.cases import build_log, large_cases, quickly, random_sides
from tests.test_logs import Hostile, wrong_values
from tests.test_stayers import START_40, random_log

FOUR_IN = [("in", "a"), ("in", "b"), ("in", "c"), ("in", "d"), ("out",)]

# Index n is the greatest length of the logs for lanes of n cars.
SMALL = (7, 6, 5, 5, 4, 4, 3)


class TestExamples(unittest.TestCase):

    def test_left_ends(self):
        self.assertEqual(left_ends((), FOUR_IN), ["a", "b", "c", "d"])

    def test_left_range(self):
        self.assertEqual(left_range((), FOUR_IN, "a"), (0, 2))

    def test_can_touch(self):
        self.assertIs(can_touch((), FOUR_IN, "a", "d"), True)


class TestOrdinaryCases(unittest.TestCase):

    def test_left_ends_in_order_of_numbers(self):
        self.assertEqual(left_ends((), []), [])
        self.assertEqual(left_ends(("b", "a"), []), ["b"])
        self.assertEqual(left_ends(("b", "a"), [("out",)]), ["b", "a"])
        self.assertEqual(left_ends(("b",), [("out",)]), [])
        self.assertEqual(left_ends(("z",), [("in", "y"), ("in", "a")]), ["z", "y", "a"])
        self.assertEqual(left_ends(("p", "q", "r"), [("in", "a"), ("out",)]), ["p", "q", "a"])
        self.assertEqual(left_ends(("p", "q", "r"), [("out",), ("in", "a")]), ["p", "q", "a"])
        log = [("out",), ("in", "a"), ("out",), ("out",)]
        self.assertEqual(left_ends(("p", "q", "r"), log), ["p", "q", "r", "a"])

    def test_left_range(self):
        start = ("p", "q", "r")
        self.assertEqual(left_range(start, [], "r"), (2, 2))
        self.assertEqual(left_range(start, [("out",)], "q"), (0, 1))
        self.assertIsNone(left_range(("p",), [("out",)], "p"))
        self.assertIsNone(left_range((), [("in", "a"), ("out",)], "a"))
        self.assertEqual(left_range(start, [("in", "a")], "a"), (0, 3))
        self.assertEqual(left_range(start, [("in", "a")], "p"), (0, 1))
        self.assertEqual(left_range((), [("in", "a"), ("in", "b"), ("in", "c")], "a"), (0, 2))
        self.assertEqual(left_range((), [("in", "a"), ("in", "b"), ("in", "c")], "c"), (0, 2))
        self.assertEqual(left_range((), [("in", "a"), ("in", "b"), ("in", "c")], "b"), (0, 2))

    def test_a_car_that_cannot_stay(self):
        # At moment 1 there is only room for one of the cars of start.
        log = [("out",), ("in", "a"), ("out",)]
        self.assertEqual(left_range(("p", "q"), log, "a"), (0, 0))
        log = [("out",), ("out",), ("in", "a")]
        for car in ("p", "q"):
            self.assertIsNone(left_range(("p", "q"), log, car))
            self.assertIs(can_touch(("p", "q"), log, car, "a"), False)
            self.assertIs(can_touch(("p", "q"), log, "a", car), False)

    def test_can_touch(self):
        start = ("p", "q", "r")
        self.assertIs(can_touch(start, [], "p", "q"), True)
        self.assertIs(can_touch(start, [], "q", "p"), False)
        self.assertIs(can_touch(start, [], "p", "r"), False)
        self.assertIs(can_touch(start, [("out",)], "q", "r"), True)
        self.assertIs(can_touch(start, [("out",), ("out",)], "q", "r"), False)
        self.assertIs(can_touch(start, [("in", "a")], "r", "a"), True)
        self.assertIs(can_touch(start, [("in", "a")], "a", "p"), True)
        self.assertIs(can_touch(start, [("in", "a")], "q", "a"), False)
        self.assertIs(can_touch(start, [("in", "a"), ("out",)], "q", "a"), False)
        self.assertIs(can_touch(start, [("out",), ("in", "a")], "q", "a"), True)

    def test_a_car_does_not_touch_itself(self):
        for car in ("a", "b", "c", "d"):
            self.assertIs(can_touch((), FOUR_IN, car, car), False)
        self.assertIs(can_touch(("p",), [("out",)], "p", "p"), False)

    def test_neighbours_with_cars_of_the_other_side_in_between(self):
        log = [("in", "a"), ("in", "b"), ("in", "c"), ("in", "d")]
        self.assertIs(can_touch((), log, "a", "d"), True)
        self.assertIs(can_touch((), log, "b", "d"), True)
        self.assertIs(can_touch((), log, "d", "a"), True)
        # The leaver keeps "c" and "d" beside each other on one side.
        log = [("in", "a"), ("in", "x"), ("in", "c"), ("in", "d"), ("out",), ("in", "e")]
        lanes = [("d", "c", "a", "e"), ("a", "c", "d", "e"), ("e", "a", "c", "d"), ("e", "d", "c", "a")]
        for lane in lanes:
            self.assertIs(can_touch((), log, lane[0], lane[1]), True)
            self.assertIs(can_touch((), log, lane[2], lane[3]), True)

    def test_kinds_of_values(self):
        self.assertIs(type(left_ends((), [])), list)
        self.assertIs(type(left_range((), FIVE_EVENTS, "a")), tuple)
        self.assertIs(type(can_touch((), FIVE_EVENTS, "a", "b")), bool)


class TestAllHistories(unittest.TestCase):

    def test_small_cases(self):
        for start, log, found in brute.small_outcomes(SMALL):
            self.check(start, log, found)

    def test_longer_logs(self):
        source = random.Random(11)
        for _ in range(120):
            start = brute.START_NAMES[:source.randrange(7)]
            log = random_log(source, start, source.randrange(7, 12), 7)
            self.check(start, log, brute.final_lanes(start, log))

    def check(self, start, log, lanes):
        cars = brute.all_cars(start, log)
        leftmost = {lane[0] for lane in lanes if lane}
        self.assertEqual(left_ends(start, log), [car for car in cars if car in leftmost], (start, log))
        places = {}
        pairs = set()
        for lane in lanes:
            for place, car in enumerate(lane):
                places.setdefault(car, []).append(place)
            pairs.update(zip(lane, lane[1:]))
        for first in cars:
            found = places.get(first)
            expected = (min(found), max(found)) if found else None
            self.assertEqual(left_range(start, log, first), expected, (start, log, first))
            for second in cars:
                expected = (first, second) in pairs
                self.assertIs(can_touch(start, log, first, second), expected, (start, log, first, second))


class TestLargeCases(unittest.TestCase):

    def test_40_cars_and_120_events(self):
        source = random.Random(12)
        for start, log in large_cases():
            cars = brute.all_cars(start, log)
            ends = quickly(self, left_ends, start, log)
            self.assertEqual(ends, [car for car in cars if car in ends])
            for car in source.sample(cars, 6):
                found = quickly(self, left_range, start, log, car)
                if found is None:
                    self.assertNotIn(car, ends)
                else:
                    self.assertIs(found[0] == 0, car in ends)
                self.assertIn(quickly(self, can_touch, start, log, car, source.choice(cars)), (True, False))

    def test_lanes_of_histories(self):
        source = random.Random(13)
        for start, log in large_cases():
            ends = left_ends(start, log)
            lane = replay(start, log, random_sides(source, log))[0]
            if not lane:
                self.assertEqual(ends, [])
                continue
            self.assertIn(lane[0], ends)
            for place in source.sample(range(len(lane)), min(4, len(lane))):
                least, most = left_range(start, log, lane[place])
                self.assertTrue(0 <= least <= place <= most < len(lane))
            for place in source.sample(range(len(lane) - 1), min(4, len(lane) - 1)):
                self.assertIs(can_touch(start, log, lane[place], lane[place + 1]), True)

    def test_known_answers(self):
        log = build_log("+" * 40)
        cars = brute.all_cars((), log)
        self.assertEqual(quickly(self, left_ends, (), log), cars)
        for number in (0, 1, 20, 39):
            self.assertEqual(quickly(self, left_range, (), log, cars[number]), (0, 39))
        self.assertIs(quickly(self, can_touch, (), log, cars[0], cars[39]), True)
        log = [("out",)] * 20
        self.assertEqual(quickly(self, left_ends, START_40, log), list(START_40[:21]))
        self.assertEqual(quickly(self, left_range, START_40, log, START_40[0]), (0, 0))
        self.assertEqual(quickly(self, left_range, START_40, log, START_40[30]), (10, 19))

    def test_one_departure_too_few_among_40_cars(self):
        # Only a block of one car is left when "aa" arrives, among 39 leavers.
        for before, expected in ((19, False), (20, True)):
            log = [("out",)] * before + [("in", "aa")] + [("out",)] * (39 - before)
            for first, second in ((START_40[19], "aa"), ("aa", START_40[20])):
                self.assertIs(quickly(self, can_touch, START_40, log, first, second), expected)


class TestErrors(unittest.TestCase):

    def calls(self):
        found = [lambda start, log: left_ends(start, log)]
        for car in ("s", "x", None):
            found.append(lambda start, log, car=car: left_range(start, log, car))
            for other in ("s", "x", None):
                found.append(lambda start, log, car=car, other=other: can_touch(start, log, car, other))
        return found

    def test_start(self):
        for function in self.calls():
            for start in wrong_values() + [["a"], ("a", "a")]:
                for log in ([], None, [("out",)], [("in", "a"), ("in", "a")]):
                    with self.assertRaises(InvalidLane):
                        function(start, log)

    def test_log(self):
        for function in self.calls():
            for log in wrong_values() + [(), [("in", "s")], [("out",), ("out",)]]:
                with self.assertRaises(InvalidLog):
                    function(("s",), log)

    def test_unknown_cars(self):
        log = [("in", "d"), ("out",)]
        wrong = ["x", "S", "", ("s",), ["s"], b"s", "in", "out", "sd", Hostile()] + wrong_values()
        for car in wrong:
            with self.assertRaises(UnknownCar):
                left_range(("s",), log, car)
            for other in ("s", "d"):
                with self.assertRaises(UnknownCar):
                    can_touch(("s",), log, car, other)
                with self.assertRaises(UnknownCar):
                    can_touch(("s",), log, other, car)
            with self.assertRaises(UnknownCar):
                can_touch(("s",), log, car, car)

    def test_no_cars(self):
        self.assertEqual(left_ends((), []), [])
        with self.assertRaises(UnknownCar):
            left_range((), [], "a")
        with self.assertRaises(UnknownCar):
            can_touch((), [], "a", "a")


if __name__ == "__main__":
    unittest.main()
