"""[15] with [8]: which lanes are possible, and the first reason against the others."""

import random
import unittest
from itertools import permutations

from openlane.errors import InvalidLane, InvalidLog
from openlane.lanes import is_possible, why_not
from openlane.logs import replay
from tests import brute
from tests.brute import FIVE_EVENTS
from tests.cases import large_cases, quickly, random_sides
from tests.test_logs import wrong_values
from tests.test_stayers import START_40, random_log

FUNCTIONS = (is_possible, why_not)
FOUR_IN = [("in", "a"), ("in", "b"), ("in", "c"), ("in", "d"), ("out",)]

# Index n is the greatest length of the logs for lanes of n cars.
SMALL = (7, 6, 5, 5, 4, 4)


class TestExamples(unittest.TestCase):

    def test_is_possible(self):
        self.assertIs(is_possible((), FIVE_EVENTS, ("d", "b", "c")), True)

    def test_why_not(self):
        self.assertEqual(why_not((), FOUR_IN, ("c", "b", "d")), ("switch", "c", "d"))
        self.assertEqual(why_not((), FOUR_IN, ("b", "d", "c")), ("order", 1))


class TestReasons(unittest.TestCase):

    def check(self, start, log, cases):
        for lane, expected in cases:
            found = why_not(start, log, lane)
            self.assertEqual(found, expected, lane)
            self.assertIs(type(found), type(expected))
            self.assertIs(is_possible(start, log, lane), expected is None, lane)

    def test_cars(self):
        log = [("in", "a"), ("out",)]
        self.check(("p", "q"), log, [
            ((), ("cars",)), (("p",), ("cars",)), (("p", "q", "a"), ("cars",)),
            (("x", "y"), ("cars",)), (("p", "x"), ("cars",)), (("x", "q"), ("cars",)),
            (("in", "out"), ("cars",)), (("p", "q"), None), (("a", "p"), None),
        ])

    def test_cars_is_before_block_and_order(self):
        start, log = ("p", "q", "r"), [("in", "a"), ("in", "b"), ("out",), ("out",)]
        self.check(start, log, [
            (("r", "p", "x"), ("cars",)), (("p", "r"), ("cars",)), (("x", "b", "a"), ("cars",)),
            (("q", "p", "a", "b"), ("cars",)),
        ])

    def test_block(self):
        start, log = ("p", "q", "r"), [("in", "a"), ("out",)]
        self.check(start, log, [
            (("p", "q", "r"), None), (("p", "r", "q"), ("block",)), (("q", "p", "a"), ("block",)),
            (("p", "a", "q"), ("block",)), (("a", "p", "r"), ("block",)), (("p", "r", "a"), ("block",)),
            (("r", "a", "q"), ("block",)), (("a", "p", "q"), None), (("q", "r", "a"), None),
        ])

    def test_block_is_before_order(self):
        log = [("in", "a"), ("in", "b"), ("out",)]
        self.check(("p", "q"), log, [
            (("p", "b", "q"), ("block",)), (("q", "p", "b"), ("block",)), (("p", "b", "a"), ("order", 1)),
        ])

    def test_order_is_the_first_one(self):
        log = [("in", name) for name in "zyxwv"]
        self.check((), log, [
            (("v", "w", "x", "y", "z"), None), (("z", "v", "y", "x", "w"), ("order", 1)),
            (("x", "z", "v", "y", "w"), ("order", 2)), (("w", "x", "z", "v", "y"), ("order", 3)),
            (("y", "x", "z", "v", "w"), ("order", 1)), (("z", "x", "y", "v", "w"), ("order", 1)),
        ])

    def test_the_ends_have_one_neighbour(self):
        self.check((), [("in", "a"), ("in", "b")], [(("a", "b"), None), (("b", "a"), None)])
        self.check(("p",), [("in", "a")], [(("p", "a"), None), (("a", "p"), None)])

    def test_order_is_before_moment(self):
        log = [("in", name) for name in "abc"] + [("out",), ("out",), ("in", "d"), ("in", "e")]
        self.check((), log, [
            (("a", "d", "b"), ("order", 1)), (("a", "b", "d"), ("moment", 5)),
            (("a", "b", "c"), ("moment", 4)), (("d", "a", "e"), None),
        ])

    def test_moment_is_before_switch(self):
        log = [("in", name) for name in "abc"] + [("out",), ("out",), ("in", "d"), ("in", "e")]
        self.check(("s",), log, [
            (("b", "s", "c", "e"), ("moment", 5)), (("c", "b", "s", "d"), ("moment", 5)),
            (("c", "s", "d", "e"), None),
        ])
        start = ("p", "q", "r")
        log = [("in", "a"), ("out",), ("out",), ("out",), ("in", "b"), ("in", "c")]
        self.check(start, log, [
            (("a", "q", "b"), ("moment", 4)), (("q", "b", "c"), None), (("a", "b", "c"), None),
        ])

    def test_switch_of_the_first_arriving_stayer(self):
        start = ("p", "q", "r", "s")
        log = [("out",), ("in", "a"), ("out",), ("in", "b"), ("out",), ("out",)]
        self.check(start, log, [
            (("q", "a"), ("switch", None, "a")), (("a", "q"), None),
            (("r", "a"), None), (("a", "r"), ("switch", None, "a")),
            (("q", "b"), None), (("b", "q"), None), (("s", "a"), None), (("b", "s"), ("switch", None, "b")),
        ])

    def test_switch_of_a_later_stayer(self):
        log = [("in", "a"), ("in", "b"), ("in", "c"), ("out",), ("in", "d"), ("out",), ("in", "e")]
        self.check(("p",), log, [
            (("b", "p", "c", "e"), ("switch", "b", "c")), (("c", "p", "b", "e"), ("switch", "b", "c")),
            (("b", "p", "d", "e"), None), (("c", "p", "d", "e"), ("switch", "c", "d")),
            (("d", "b", "p", "e"), None), (("e", "b", "p", "d"), None),
        ])

    def test_the_first_stayer_of_all_has_no_side(self):
        log = [("in", "a"), ("in", "b"), ("in", "c"), ("out",)]
        self.check((), log, [(("c", "b"), None), (("b", "c"), None)])
        self.check(("p",), log + [("out",)], [(("c", "b"), None), (("b", "c"), None)])

    def test_the_earliest_switch(self):
        log = [("in", name) for name in "abcde"] + [("out",)]
        self.check((), log, [
            (("d", "b", "c", "e"), ("switch", "c", "d")), (("e", "b", "c", "d"), ("switch", "d", "e")),
            (("c", "b", "d", "e"), ("switch", "c", "d")), (("e", "d", "c", "b"), None),
            (("b", "c", "d", "e"), None),
        ])
        log = [("in", "a"), ("in", "b"), ("out",), ("out",)]
        self.check(("p", "q", "r"), log, [
            (("a", "q", "b"), ("switch", None, "a")), (("a", "p", "b"), ("switch", "a", "b")),
        ])

    def test_empty_lanes(self):
        self.check((), [], [((), None), (("a",), ("cars",))])
        self.check(("a",), [("out",)], [((), None), (("a",), ("cars",))])
        self.check(("a", "b"), [], [(("a", "b"), None), (("b", "a"), ("block",)), ((), ("cars",))])


class TestAllHistories(unittest.TestCase):

    def test_lanes_of_the_right_size(self):
        for start, log, found in brute.small_outcomes(SMALL):
            for lane in list(brute.lanes_of_size(start, log)) + list(found):
                reason = brute.lane_reason(start, log, lane)
                self.assertIs(reason is None, lane in found, (start, log, lane))
                self.assertEqual(why_not(start, log, lane), reason, (start, log, lane))
                self.assertIs(is_possible(start, log, lane), lane in found, (start, log, lane))

    def test_lanes_of_any_size_and_unknown_cars(self):
        for start, log, found in brute.small_outcomes((4, 3, 3, 2)):
            cars = brute.all_cars(start, log) + ["no"]
            for count in range(len(cars) + 1):
                for lane in permutations(cars, count):
                    self.assertIs(is_possible(start, log, lane), lane in found)
                    self.assertEqual(why_not(start, log, lane), brute.lane_reason(start, log, lane))

    def test_longer_logs(self):
        source = random.Random(5)
        for _ in range(100):
            start = brute.START_NAMES[:source.randrange(7)]
            log = random_log(source, start, 10, 7)
            found = brute.final_lanes(start, log)
            for lane in found:
                self.assertIsNone(why_not(start, log, lane))
                for wrong in neighbours(source, start, log, lane):
                    expected = brute.lane_reason(start, log, wrong)
                    self.assertIs(expected is None, wrong in found)
                    self.assertEqual(why_not(start, log, wrong), expected)


def neighbours(source, start, log, lane):
    """Lanes that differ from the given one in two places or in one car."""
    if len(lane) < 2:
        return
    for _ in range(3):
        one, two = source.sample(range(len(lane)), 2)
        mixed = list(lane)
        mixed[one], mixed[two] = mixed[two], mixed[one]
        yield tuple(mixed)
        others = [car for car in brute.all_cars(start, log) if car not in lane]
        if others:
            mixed[one] = source.choice(others)
            yield tuple(mixed)


class TestLargeCases(unittest.TestCase):

    def test_lanes_of_histories(self):
        source = random.Random(6)
        for start, log in large_cases():
            for _ in range(5):
                lane = replay(start, log, random_sides(source, log))[0]
                self.assertIsNone(quickly(self, why_not, start, log, lane))
                self.assertIs(quickly(self, is_possible, start, log, lane), True)
                for wrong in neighbours(source, start, log, lane):
                    expected = brute.lane_reason(start, log, wrong)
                    self.assertEqual(quickly(self, why_not, start, log, wrong), expected)
                    self.assertIs(is_possible(start, log, wrong), expected is None)

    def test_one_departure_too_few_among_40_cars(self):
        # When "aa" arrives there are 38 leavers on the other side.
        for before, reason in ((37, ("switch", "aa", "ab")), (38, None)):
            log = [("out",), ("in", "aa")] + [("out",)] * before + [("in", "ab")] + [("out",)] * (38 - before)
            lane = ("aa", START_40[0], "ab")
            self.assertEqual(quickly(self, why_not, START_40, log, lane), reason)
            self.assertIs(quickly(self, is_possible, START_40, log, lane), reason is None)


class TestErrors(unittest.TestCase):

    def test_start(self):
        for function in FUNCTIONS:
            for start in wrong_values() + [["a"], ("a", "a")]:
                for log, lane in (([], ()), (None, None), ([("out",)], ("x",)), ([], ["a"])):
                    with self.assertRaises(InvalidLane):
                        function(start, log, lane)

    def test_log(self):
        for function in FUNCTIONS:
            for log in wrong_values() + [(), [("in", "s")], [("out",), ("out",)]]:
                for lane in ((), None, ("x",), ("s", "s"), ["s"]):
                    with self.assertRaises(InvalidLog):
                        function(("s",), log, lane)

    def test_lane(self):
        for function in FUNCTIONS:
            for lane in wrong_values() + [[], ["s"], ("s", "s"), ("S",), ("abcde",), ("x", "s", "x")]:
                with self.assertRaises(InvalidLane):
                    function(("s", "t"), [], lane)

    def test_unknown_cars_are_no_error(self):
        for function in FUNCTIONS:
            for lane in (("x",), ("s", "x"), ("x", "y", "z")):
                function(("s", "t"), [], lane)


if __name__ == "__main__":
    unittest.main()
