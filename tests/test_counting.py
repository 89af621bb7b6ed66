"""[19], [20]: how many possible final lanes there are, and their order."""

import random
import unittest
from itertools import permutations
from math import comb

from openlane.counting import count_lanes, count_orders, nth_lane, rank_lane
from openlane.errors import (
    InvalidCars, InvalidIndex, InvalidLane, InvalidLog, NotPossible, UnknownCar)
from openlane.lanes import is_possible
from openlane.logs import replay
from tests import brute
from tests.brute import FIVE_EVENTS
from tests.cases import build_log, large_cases, quickly, random_sides
from tests.test_logs import Hostile, wrong_values
from tests.test_stayers import START_40, random_log

# Index n is the greatest length of the logs for lanes of n cars.
SMALL = (7, 6, 6, 5, 5, 4, 4)


class TestExamples(unittest.TestCase):

    def test_count_orders(self):
        self.assertEqual(count_orders((), FIVE_EVENTS, ("b", "c", "d")), 4)

    def test_count_lanes(self):
        self.assertEqual(count_lanes((), FIVE_EVENTS), 12)

    def test_nth_lane(self):
        self.assertEqual(nth_lane((), FIVE_EVENTS, 2), ("d", "a", "b"))

    def test_rank_lane(self):
        self.assertEqual(rank_lane((), FIVE_EVENTS, ("b", "c", "d")), 11)


class TestOrdinaryCases(unittest.TestCase):

    def lanes(self, start, log):
        return [nth_lane(start, log, index) for index in range(count_lanes(start, log))]

    def test_all_lanes_in_order(self):
        self.assertEqual(self.lanes((), FIVE_EVENTS), [
            ("d", "b", "a"), ("b", "a", "d"), ("d", "a", "b"), ("a", "b", "d"),
            ("d", "c", "a"), ("c", "a", "d"), ("d", "a", "c"), ("a", "c", "d"),
            ("d", "c", "b"), ("c", "b", "d"), ("d", "b", "c"), ("b", "c", "d"),
        ])

    def test_longer_blocks_are_first(self):
        log = [("out",), ("in", "a"), ("out",), ("in", "b")]
        self.assertEqual(self.lanes(("p", "q"), log), [
            ("b", "p"), ("p", "b"), ("b", "q"), ("q", "b"), ("b", "a"), ("a", "b"),
        ])
        log = [("in", "a"), ("out",), ("out",)]
        self.assertEqual(self.lanes(("p", "q", "r"), log), [
            ("p", "q"), ("a", "p"), ("q", "r"), ("r", "a"),
        ])

    def test_sets_are_compared_by_numbers_not_by_names(self):
        log = [("in", "z"), ("in", "a"), ("out",)]
        self.assertEqual(self.lanes(("q",), log), [
            ("z", "q"), ("q", "z"), ("a", "q"), ("q", "a"), ("a", "z"), ("z", "a"),
        ])

    def test_a_word_without_the_first_stayer_of_all(self):
        log = [("in", "a"), ("in", "b"), ("in", "c")]
        self.assertEqual(self.lanes((), log), [
            ("c", "b", "a"), ("b", "a", "c"), ("c", "a", "b"), ("a", "b", "c"),
        ])
        self.assertEqual(self.lanes(("s",), log[:2]), [
            ("b", "a", "s"), ("a", "s", "b"), ("b", "s", "a"), ("s", "a", "b"),
        ])

    def test_only_words_of_possible_lanes_count(self):
        log = [("in", "a"), ("in", "b"), ("in", "c"), ("in", "d"), ("out",)]
        self.assertEqual(nth_lane((), log, 0), ("c", "b", "a"))
        self.assertEqual(self.lanes((), log)[4:], [
            ("d", "b", "a"), ("b", "a", "d"), ("d", "a", "b"), ("a", "b", "d"),
            ("d", "c", "a"), ("a", "c", "d"), ("d", "c", "b"), ("b", "c", "d"),
        ])

    def test_empty_lanes(self):
        for start, log in (((), []), (("a",), [("out",)]), ((), [("in", "a"), ("out",)])):
            self.assertEqual(self.lanes(start, log), [()])
            self.assertEqual(rank_lane(start, log, ()), 0)
            self.assertEqual(count_orders(start, log, ()), 1)
        self.assertEqual(self.lanes(("b", "a"), []), [("b", "a")])
        self.assertEqual(rank_lane(("b", "a"), [], ("b", "a")), 0)
        self.assertEqual(self.lanes((), [("in", "a")]), [("a",)])

    def test_sets_that_cannot_stay(self):
        for cars in ((), ("a",), ("a", "b", "c"), ("a", "b", "c", "d"), ("c", "d")):
            self.assertEqual(count_orders((), FIVE_EVENTS, cars), 0)
        start = ("p", "q", "r")
        self.assertEqual(count_orders(start, [("out",)], ("p", "r")), 0)
        log = [("in", "a"), ("out",), ("out",)]
        self.assertEqual(count_orders(start, log, ("q", "a")), 0)
        self.assertEqual(count_orders(start, log, ("p", "a")), 1)

    def test_order_of_the_cars_has_no_effect(self):
        for cars in permutations(("b", "c", "d")):
            self.assertEqual(count_orders((), FIVE_EVENTS, cars), 4)

    def test_kinds_of_values(self):
        self.assertIs(type(nth_lane((), FIVE_EVENTS, 0)), tuple)
        self.assertIs(type(nth_lane(("a",), [("out",)], 0)), tuple)
        for found in (count_lanes((), []), rank_lane((), [], ()), count_orders((), [], ()),
                      count_orders((), FIVE_EVENTS, ())):
            self.assertIs(type(found), int)


class TestAllHistories(unittest.TestCase):

    def test_small_cases(self):
        for start, log, found in brute.small_outcomes(SMALL):
            self.check(start, log, list(found))

    def test_longer_logs(self):
        source = random.Random(9)
        for _ in range(60):
            start = brute.START_NAMES[:source.randrange(7)]
            log = random_log(source, start, source.randrange(7, 11), 7)
            self.check(start, log, list(brute.final_lanes(start, log)))

    def check(self, start, log, lanes):
        lanes = sorted(lanes, key=lambda lane: brute.sort_key(start, log, lane))
        self.assertEqual(count_lanes(start, log), len(lanes), (start, log))
        orders = {}
        for index, lane in enumerate(lanes):
            self.assertEqual(nth_lane(start, log, index), lane, (start, log, index))
            self.assertEqual(rank_lane(start, log, lane), index, (start, log, lane))
            cars = frozenset(lane)
            orders[cars] = orders.get(cars, 0) + 1
        for wrong in (-1, len(lanes)):
            with self.assertRaises(InvalidIndex):
                nth_lane(start, log, wrong)
        for cars in brute.subsets(brute.all_cars(start, log)):
            expected = orders.get(frozenset(cars), 0)
            self.assertEqual(count_orders(start, log, cars), expected, (start, log, cars))

    def test_lanes_that_are_not_possible(self):
        for start, log, found in brute.small_outcomes((5, 4, 4, 3)):
            for lane in list(brute.lanes_of_size(start, log)) + [("no",), ("no", "yes")]:
                if lane not in found:
                    with self.assertRaises(NotPossible):
                        rank_lane(start, log, lane)


class TestLargeCases(unittest.TestCase):

    def check(self, start, log, indexes):
        lanes = []
        for index in sorted(indexes):
            lane = quickly(self, nth_lane, start, log, index)
            self.assertEqual(quickly(self, rank_lane, start, log, lane), index)
            self.assertIs(is_possible(start, log, lane), True)
            self.assertGreater(quickly(self, count_orders, start, log, lane), 0)
            lanes.append(lane)
        keys = [brute.sort_key(start, log, lane) for lane in lanes]
        self.assertEqual(keys, sorted(keys))
        return lanes

    def test_40_cars_and_120_events(self):
        source = random.Random(10)
        for start, log in large_cases():
            count = quickly(self, count_lanes, start, log)
            indexes = {0, count // 2, count - 1, source.randrange(count), source.randrange(count)}
            self.check(start, log, indexes)
            lane = replay(start, log, random_sides(source, log))[0]
            rank = quickly(self, rank_lane, start, log, lane)
            self.assertEqual(quickly(self, nth_lane, start, log, rank), lane)
            with self.assertRaises(InvalidIndex):
                nth_lane(start, log, count)

    def test_forty_cars_of_which_none_departs(self):
        log = build_log("+" * 40)
        cars = tuple(brute.all_cars((), log))
        self.assertEqual(quickly(self, count_lanes, (), log), 2 ** 39)
        self.assertEqual(quickly(self, count_orders, (), log, cars), 2 ** 39)
        self.assertEqual(quickly(self, nth_lane, (), log, 0), cars[::-1])
        self.assertEqual(quickly(self, nth_lane, (), log, 2 ** 39 - 1), cars)
        self.assertEqual(quickly(self, rank_lane, (), log, cars), 2 ** 39 - 1)
        self.assertEqual(nth_lane((), log, 2 ** 38), cars[:1:-1] + cars[:2])

    def test_forty_cars_of_which_twenty_depart(self):
        log = build_log("+" * 40 + "-" * 20)
        cars = tuple(brute.all_cars((), log))
        # With a leaver before it, no stayer but the first one lets the next one switch. So
        # what counts is how many of the first cars stay, up to the first leaver.
        total = 2 ** 19
        for together in range(20):
            total += comb(39 - together, 20 - together) * 2 ** max(1, together)
        self.assertEqual(quickly(self, count_lanes, (), log), total)
        self.assertEqual(quickly(self, nth_lane, (), log, 0), cars[19::-1])
        self.assertEqual(quickly(self, nth_lane, (), log, total - 1), cars[20:])
        self.assertEqual(quickly(self, rank_lane, (), log, cars[20:]), total - 1)
        self.assertEqual(quickly(self, count_orders, (), log, cars[20:]), 2)
        self.assertEqual(quickly(self, count_orders, (), log, cars[:20]), 2 ** 19)
        self.assertEqual(quickly(self, count_orders, (), log, cars[:10] + cars[30:]), 2 ** 10)

    def test_forty_cars_of_which_all_depart(self):
        log = build_log("+" * 40 + "-" * 40)
        self.assertEqual(quickly(self, count_lanes, (), log), 1)
        self.assertEqual(quickly(self, nth_lane, (), log, 0), ())
        self.assertEqual(quickly(self, rank_lane, (), log, ()), 0)

    def test_40_cars_of_start(self):
        log = build_log("-" * 20)
        self.assertEqual(quickly(self, count_lanes, START_40, log), 21)
        for index in range(21):
            self.assertEqual(nth_lane(START_40, log, index), START_40[index:index + 20])
            self.assertEqual(rank_lane(START_40, log, START_40[index:index + 20]), index)

    def test_huge_indexes(self):
        log = build_log("+" * 40)
        for index in (2 ** 39, 10 ** 29, -10 ** 29, 2 ** 64, -2 ** 39, 10 ** 400):
            with self.assertRaises(InvalidIndex):
                nth_lane((), log, index)


class TestErrors(unittest.TestCase):

    def calls(self):
        return [
            lambda start, log, value: count_lanes(start, log), count_orders, nth_lane, rank_lane,
        ]

    def test_start(self):
        for function in self.calls():
            for start in wrong_values() + [["a"], ("a", "a")]:
                for log, value in (([], ()), (None, None), ([("out",)], ("x",)), ([], -1), (0, 0)):
                    with self.assertRaises(InvalidLane):
                        function(start, log, value)

    def test_log(self):
        for function in self.calls():
            for log in wrong_values() + [(), [("in", "s")], [("out",), ("out",)]]:
                for value in ((), None, ("x",), ("s", "s"), ["s"], 0, -1):
                    with self.assertRaises(InvalidLog):
                        function(("s",), log, value)

    def test_cars(self):
        for cars in wrong_values() + [["s"], ("s", "s"), ("S",), ("x", "x")]:
            with self.assertRaises(InvalidCars):
                count_orders(("s", "t"), [], cars)
        for cars in (("x",), ("s", "x"), ("a", "s", "x"), ("out",)):
            with self.assertRaises(UnknownCar):
                count_orders(("s",), [("in", "a"), ("out",)], cars)

    def test_index(self):
        wrong = [value for value in wrong_values() if type(value) is not int]
        for index in wrong + [True, False, -1, 12, 13, 1.0, 0.0, "0", b"0", [0], (0,), {0}, 1j, Hostile()]:
            with self.assertRaises(InvalidIndex):
                nth_lane((), FIVE_EVENTS, index)
        for index in (False, True, 1, -1, 0.0):
            with self.assertRaises(InvalidIndex):
                nth_lane((), [], index)

    def test_rank_of_no_lane(self):
        for lane in wrong_values() + [["s"], ("s", "s"), ("S",), ("x", "x"), ("s", "x", "x")]:
            with self.assertRaises(InvalidLane):
                rank_lane(("s", "t"), [], lane)

    def test_rank_of_a_lane_that_is_not_possible(self):
        for lane in ((), ("a",), ("a", "c", "b"), ("a", "b", "c"), ("x", "y", "z"), ("a", "b", "c", "d")):
            with self.assertRaises(NotPossible):
                rank_lane((), FIVE_EVENTS, lane)


if __name__ == "__main__":
    unittest.main()
