"""[22]: the possible final lanes that have given cars at given places."""

import random
import unittest
from itertools import product

from openlane.counting import count_lanes, nth_lane
from openlane.errors import InvalidLane, InvalidLog, InvalidPattern, TooLarge, UnknownCar
from openlane.logs import replay, sizes
from openlane.patterns import count_matching, first_matching
from tests import brute
from tests.brute import FIVE_EVENTS
from tests.cases import build_log, large_cases, quickly, random_sides
from tests.test_logs import WRONG_TEXTS, Hostile, wrong_values
from tests.test_stayers import START_40, random_log

FUNCTIONS = (count_matching, first_matching)

# Index n is the greatest length of the logs for lanes of n cars.
SMALL = (6, 5, 5, 4, 4, 4)


def matches(lane, pattern):
    return all(entry is None or entry == car for car, entry in zip(lane, pattern))


def in_order(start, log, lanes):
    return sorted(lanes, key=lambda lane: brute.sort_key(start, log, lane))


def hidden(lane, shown):
    """The pattern that shows the car at each place for which shown is true."""
    return tuple(car if show else None for car, show in zip(lane, shown))


class TestExamples(unittest.TestCase):

    def test_count_matching(self):
        self.assertEqual(count_matching((), FIVE_EVENTS, (None, "a", None)), 4)

    def test_first_matching(self):
        self.assertEqual(first_matching((), FIVE_EVENTS, (None, "a", None)), ("b", "a", "d"))


class TestOrdinaryCases(unittest.TestCase):

    def check(self, start, log, cases):
        for pattern, count, first in cases:
            self.assertEqual(count_matching(start, log, pattern), count, pattern)
            self.assertEqual(first_matching(start, log, pattern), first, pattern)

    def test_patterns_of_five_events(self):
        self.check((), FIVE_EVENTS, [
            ((None, None, None), 12, ("d", "b", "a")),
            (("d", None, None), 6, ("d", "b", "a")),
            ((None, None, "d"), 6, ("b", "a", "d")),
            ((None, "d", None), 0, None),
            ((None, None, "b"), 2, ("d", "a", "b")),
            (("a", None, "d"), 2, ("a", "b", "d")),
            (("a", "c", None), 1, ("a", "c", "d")),
            (("b", "c", "d"), 1, ("b", "c", "d")),
            (("a", "b", "c"), 0, None),
            (("d", "a", None), 2, ("d", "a", "b")),
            (("c", None, "a"), 0, None),
        ])

    def test_the_first_set_is_before_the_first_word(self):
        log = [("in", "a"), ("in", "b"), ("in", "c"), ("out",)]
        # The only lanes are b-a, a-b, c-a, a-c, c-b and b-c, in this order.
        self.check((), log, [
            ((None, "b"), 2, ("a", "b")), (("b", None), 2, ("b", "a")), ((None, "c"), 2, ("a", "c")),
            (("c", None), 2, ("c", "a")), ((None, None), 6, ("b", "a")), (("a", None), 2, ("a", "b")),
        ])

    def test_cars_of_start(self):
        start = ("p", "q", "r")
        log = [("out",), ("in", "a"), ("out",), ("in", "b")]
        self.check(start, log, [
            ((None, "p", None), 2, ("b", "p", "q")), (("p", None, None), 1, ("p", "q", "b")),
            ((None, "q", None), 4, ("p", "q", "b")), ((None, None, "r"), 1, ("b", "q", "r")),
            (("b", None, None), 6, ("b", "p", "q")), (("q", "p", None), 0, None),
            (("b", None, "a"), 2, ("b", "q", "a")), ((None, "r", "a"), 1, ("b", "r", "a")),
            (("r", None, None), 1, ("r", "a", "b")), ((None, "b", None), 0, None),
        ])

    def test_departed_cars_match_nothing(self):
        log = [("out",), ("in", "a")]
        self.check(("p",), log, [(("p",), 0, None), (("a",), 1, ("a",)), ((None,), 1, ("a",))])

    def test_empty_lanes(self):
        for start, log in (((), []), (("a",), [("out",)]), ((), [("in", "a"), ("out",)])):
            self.check(start, log, [((), 1, ())])
        self.check(("b", "a"), [], [
            (("b", "a"), 1, ("b", "a")), ((None, None), 1, ("b", "a")), (("a", None), 0, None),
            ((None, "a"), 1, ("b", "a")), (("a", "b"), 0, None),
        ])
        self.check((), [("in", "a")], [((None,), 1, ("a",)), (("a",), 1, ("a",))])

    def test_kinds_of_values(self):
        for pattern in ((None, "a", None), (None, "d", None)):
            self.assertIs(type(count_matching((), FIVE_EVENTS, pattern)), int)
        self.assertIs(type(count_matching((), [], ())), int)
        self.assertIs(type(first_matching((), FIVE_EVENTS, (None, "a", None))), tuple)
        self.assertIs(type(first_matching(("a",), [], (None,))), tuple)


class TestAllHistories(unittest.TestCase):

    def check(self, start, log, lanes, pattern):
        found = [lane for lane in lanes if matches(lane, pattern)]
        self.assertEqual(count_matching(start, log, pattern), len(found), (start, log, pattern))
        first = found[0] if found else None
        self.assertEqual(first_matching(start, log, pattern), first, (start, log, pattern))

    def test_patterns_without_a_car_and_with_a_car_at_each_place(self):
        for start, log, found in brute.small_outcomes(SMALL):
            lanes = in_order(start, log, found)
            self.check(start, log, lanes, (None,) * len(lanes[0]))
            for lane in lanes:
                self.check(start, log, lanes, lane)

    def test_one_car_at_each_place(self):
        for start, log, found in brute.small_outcomes(SMALL):
            lanes = in_order(start, log, found)
            for car in brute.all_cars(start, log):
                for place in range(len(lanes[0])):
                    pattern = (None,) * place + (car,) + (None,) * (len(lanes[0]) - place - 1)
                    self.check(start, log, lanes, pattern)

    def test_all_patterns_of_tiny_cases(self):
        for start, log, found in brute.small_outcomes((5, 4, 3, 2)):
            lanes = in_order(start, log, found)
            entries = brute.all_cars(start, log) + [None]
            for pattern in product(entries, repeat=len(lanes[0])):
                cars = [entry for entry in pattern if entry is not None]
                if len(set(cars)) == len(cars):
                    self.check(start, log, lanes, pattern)

    def test_some_cars_of_longer_logs(self):
        source = random.Random(21)
        for _ in range(60):
            start = brute.START_NAMES[:source.randrange(7)]
            log = random_log(source, start, source.randrange(6, 11), 7)
            lanes = in_order(start, log, brute.final_lanes(start, log))
            for _ in range(20):
                lane = list(source.choice(lanes))
                if lane and source.random() < 0.4:
                    others = set(brute.all_cars(start, log)) - set(lane)
                    lane[source.randrange(len(lane))] = source.choice(sorted(others) or lane[:1])
                if len(set(lane)) < len(lane):
                    continue
                pattern = hidden(lane, [source.random() < 0.4 for _ in lane])
                self.check(start, log, lanes, pattern)

    def test_twelve_places(self):
        source = random.Random(22)
        cases = [
            ((), build_log("+" * 12)), ((), build_log("+" * 10 + "-" + "+" * 3)),
            (START_40[:3], build_log("+" * 8 + "-+" * 2 + "+")), (START_40[:12], build_log("-+" * 3)),
            (START_40[:14], build_log("+--+--")), (START_40[:18], build_log("-" * 7 + "+" * 2 + "-")),
        ]
        for start, log in cases:
            self.assertEqual(sizes(start, log)[-1], 12)
            lanes = in_order(start, log, brute.final_lanes(start, log))
            for count in (0, 1, 1, 2, 2, 3, 4, 8, 12):
                lane = source.choice(lanes)
                places = source.sample(range(12), count)
                self.check(start, log, lanes, hidden(lane, [place in places for place in range(12)]))
                other = source.choice(lanes)
                mixed = hidden(lane, [place in places for place in range(12)])[:6] + (None,) * 6
                entry = source.choice(other[6:])
                if entry not in mixed:
                    self.check(start, log, lanes, mixed[:11] + (entry,))


class TestLargeCases(unittest.TestCase):

    def cases(self):
        """Large cases with at most twelve cars at the end."""
        for start, log in large_cases()[3::3]:
            while sizes(start, log)[-1] > 12:
                log = log + [("out",)]
            yield start, log
        for signs in ("+" * 12 + "-+" * 56, "+" * 40 + "-+" * 28 + "-" * 28, "+" * 40 + "-" * 28):
            yield (), build_log(signs)
        yield START_40, build_log("-" * 28 + "+-" * 48)

    def test_all_lanes_match_a_pattern_without_a_car(self):
        for start, log in self.cases():
            pattern = (None,) * sizes(start, log)[-1]
            self.assertEqual(quickly(self, count_matching, start, log, pattern), count_lanes(start, log))
            self.assertEqual(quickly(self, first_matching, start, log, pattern), nth_lane(start, log, 0))

    def test_patterns_of_lanes(self):
        source = random.Random(23)
        for start, log in self.cases():
            lane = replay(start, log, random_sides(source, log))[0]
            self.assertEqual(quickly(self, count_matching, start, log, lane), 1)
            self.assertEqual(quickly(self, first_matching, start, log, lane), lane)
            pattern = hidden(lane, [source.random() < 0.3 for _ in lane])
            count = quickly(self, count_matching, start, log, pattern)
            self.assertTrue(1 <= count <= count_lanes(start, log))
            first = quickly(self, first_matching, start, log, pattern)
            self.assertTrue(matches(first, pattern))
            self.assertLessEqual(brute.sort_key(start, log, first), brute.sort_key(start, log, lane))

    def test_the_cars_at_a_place_share_all_lanes(self):
        for start, log in ((START_40[:2], build_log("+" * 10 + "-+" * 10)), (START_40, build_log("-" * 30 + "+-+" * 2))):
            size = sizes(start, log)[-1]
            cars = brute.all_cars(start, log)
            for place in (0, 5):
                counts = []
                for car in cars:
                    pattern = (None,) * place + (car,) + (None,) * (size - place - 1)
                    counts.append(count_matching(start, log, pattern))
                self.assertEqual(sum(counts), count_lanes(start, log))


class TestErrors(unittest.TestCase):

    def test_start(self):
        for function in FUNCTIONS:
            for start in wrong_values() + [["a"], ("a", "a")]:
                for log, pattern in (([], ()), (None, None), ([("out",)], ("x",)), ([], (None,) * 13)):
                    with self.assertRaises(InvalidLane):
                        function(start, log, pattern)

    def test_log(self):
        for function in FUNCTIONS:
            for log in wrong_values() + [(), [("in", "s")], [("out",), ("out",)]]:
                for pattern in ((), None, ("x",), ("s", "s"), (None,) * 13):
                    with self.assertRaises(InvalidLog):
                        function(("s",), log, pattern)

    def test_no_pattern(self):
        wrong = [value for value in wrong_values() if not isinstance(value, tuple)]
        for function in FUNCTIONS:
            for value in wrong + [[None, None], ["s", None], ["s", "t"], "st", {"s": "t"}, {None}, iter(())]:
                with self.assertRaises(InvalidPattern):
                    function(("s", "t"), [], value)
                with self.assertRaises(InvalidPattern):
                    function((), [], value)

    def test_wrong_length(self):
        for function in FUNCTIONS:
            for pattern in ((), (None,), ("s",), (None,) * 3, ("s", "t", None), (None,) * 12, (None,) * 13):
                with self.assertRaises(InvalidPattern):
                    function(("s", "t"), [("in", "a"), ("out",)], pattern)
            with self.assertRaises(InvalidPattern):
                function((), [], (None,))
            with self.assertRaises(InvalidPattern):
                function(START_40[:13], [], (None,) * 12)

    def test_wrong_entries(self):
        entries = [text for text in WRONG_TEXTS]
        entries += [0, True, False, b"s", ("s",), (), ["s"], [], {}, Hostile(), ("in", "s"), 1.5]
        for function in FUNCTIONS:
            for entry in entries:
                for pattern in ((entry, None), ("s", entry), (entry, entry)):
                    with self.assertRaises(InvalidPattern):
                        function(("s", "t"), [], pattern)

    def test_a_car_twice(self):
        for function in FUNCTIONS:
            for pattern in (("s", "s", None), ("s", None, "s"), (None, "x", "x"), ("s", "t", "t")):
                with self.assertRaises(InvalidPattern):
                    function(("s", "t", "u"), [], pattern)

    def test_unknown_cars(self):
        log = [("in", "a"), ("out",)]
        for function in FUNCTIONS:
            for pattern in (("x", None), ("s", "x"), ("in", "a"), (None, "out"), ("b", "c"), ("st", None)):
                with self.assertRaises(UnknownCar):
                    function(("s", "t"), log, pattern)
            for pattern in (("x", "x"), ("x", "X"), ("x", 0), ("x",), ("x", None, None)):
                with self.assertRaises(InvalidPattern):
                    function(("s", "t"), log, pattern)

    def test_thirteen_places(self):
        cases = [
            (START_40[:13], []), ((), build_log("+" * 13)), (START_40[:5], build_log("-+" * 5 + "+" * 8)),
        ]
        for function in FUNCTIONS:
            for start, log in cases:
                cars = tuple(brute.all_cars(start, log))
                for pattern in ((None,) * 13, cars[-13:], cars[-1:] + (None,) * 12, (None,) * 12 + cars[-2:-1]):
                    with self.assertRaises(TooLarge) as caught:
                        function(start, log, pattern)
                    self.assertEqual(caught.exception.limit, 12)
            for count in (14, 20, 40):
                with self.assertRaises(TooLarge) as caught:
                    function(START_40[:count], [], (None,) * count)
                self.assertEqual(caught.exception.limit, 12)

    def test_too_large_is_the_last_error(self):
        start = START_40[:13]
        blank = (None,) * 12
        for function in FUNCTIONS:
            with self.assertRaises(InvalidLane):
                function(list(start), [], blank + (None,))
            with self.assertRaises(InvalidLog):
                function(start, [("in", start[0])], blank + (None,))
            for pattern in (blank, list(blank) + [None], blank + ("X",), blank + (0,), blank + (None, None),
                            blank[:11] + (start[0], start[0]), blank[:11] + ("x", "x")):
                with self.assertRaises(InvalidPattern):
                    function(start, [], pattern)
            for entry in ("x", "in", "abcd"):
                with self.assertRaises(UnknownCar):
                    function(start, [], blank + (entry,))
                with self.assertRaises(UnknownCar):
                    function(start, [], (start[1], entry) + blank[:11])

    def test_a_long_log_with_few_places_is_answered(self):
        for function in FUNCTIONS:
            function(START_40[:13], [("out",)], (None,) * 12)
            function((), build_log("+" * 40 + "-" * 28), (None,) * 12)


if __name__ == "__main__":
    unittest.main()
