"""[16], [17], [18]: one history of a lane, their number, and the ranks of departures."""

import random
import unittest

from openlane.errors import InvalidLane, InvalidLog, UnknownCar
from openlane.histories import count_histories, departure_ranks, history
from openlane.lanes import is_possible
from openlane.logs import replay
from tests import brute
from tests.brute import FIVE_EVENTS
from tests.cases import build_log, large_cases, quickly, random_sides
from tests.test_logs import Hostile, wrong_values
from tests.test_stayers import START_40, random_log

TWO_IN = [("in", "a"), ("in", "b"), ("out",)]

# Index n is the greatest length of the logs for lanes of n cars.
SMALL = (7, 6, 6, 5, 5, 4, 4)


class TestExamples(unittest.TestCase):

    def test_history(self):
        self.assertEqual(history((), FIVE_EVENTS, ("d", "a", "b")), ["R", "R", "R", "R", "L"])
        self.assertEqual(history((), TWO_IN, ("b",)), ["R", "L", "R"])

    def test_count_histories(self):
        self.assertEqual(count_histories((), TWO_IN, ("b",)), 4)

    def test_departure_ranks(self):
        log = [("in", "a"), ("in", "b"), ("in", "c"), ("out",), ("out",)]
        self.assertEqual(departure_ranks((), log, ("b",), "c"), [0, 1])


class TestOrdinaryCases(unittest.TestCase):

    def test_history_without_stayers(self):
        log = [("in", "a"), ("out",), ("out",)]
        self.assertEqual(history(("s",), log, ()), ["R", "L", "L"])
        self.assertEqual(history((), [], ()), [])
        self.assertEqual(history(("s", "t"), [], ("s", "t")), [])
        self.assertEqual(history((), [("in", "a")], ("a",)), ["L"])

    def test_history_of_the_first_stayer_of_all(self):
        log = [("in", "a"), ("in", "b"), ("in", "c"), ("out",)]
        self.assertEqual(history((), log, ("b", "c")), ["L", "R", "R", "L"])
        self.assertEqual(history((), log, ("c", "b")), ["R", "L", "L", "R"])
        self.assertEqual(history((), log[:3], ("c", "a", "b")), ["R", "R", "L"])

    def test_history_makes_room_at_the_next_side(self):
        log = [("out",), ("in", "a"), ("out",), ("in", "b")]
        self.assertEqual(history(("p", "q", "r"), log, ("b", "q", "a")), ["R", "R", "L", "L"])
        self.assertEqual(history(("p", "q", "r"), log, ("p", "q", "b")), ["R", "L", "L", "R"])
        self.assertEqual(history(("p", "q", "r"), log, ("b", "q", "r")), ["L", "R", "R", "L"])

    def test_impossible_lanes(self):
        for lane in ((), ("a",), ("a", "b", "c"), ("a", "c", "b"), ("a", "d", "x"), ("a", "d", "b")):
            self.assertIsNone(history((), FIVE_EVENTS, lane))
            self.assertEqual(count_histories((), FIVE_EVENTS, lane), 0)
            self.assertEqual(departure_ranks((), FIVE_EVENTS, lane, "a"), [])
            self.assertEqual(departure_ranks((), FIVE_EVENTS, lane, "c"), [])

    def test_counts(self):
        self.assertEqual(count_histories((), [], ()), 1)
        self.assertEqual(count_histories((), [("in", "a")], ("a",)), 2)
        self.assertEqual(count_histories(("a",), [("out",)], ()), 2)
        self.assertEqual(count_histories(("a", "b"), [("out",)], ("a",)), 1)
        self.assertEqual(count_histories((), [("in", "a"), ("in", "b")], ("b", "a")), 2)
        self.assertEqual(count_histories(("a", "b", "c"), [("out",), ("out",)], ("b",)), 2)
        self.assertEqual(count_histories(("a",), [("in", "b"), ("out",)], ("a",)), 2)
        self.assertEqual(count_histories(("a",), [("in", "b"), ("out",)], ("b",)), 2)

    def test_ranks(self):
        log = [("out",), ("out",)]
        self.assertEqual(departure_ranks(("a", "b", "c"), log, ("b",), "a"), [0, 1])
        self.assertEqual(departure_ranks(("a", "b", "c"), log, ("a",), "b"), [1])
        self.assertEqual(departure_ranks(("a", "b", "c"), log, ("a",), "c"), [0])
        self.assertEqual(departure_ranks(("a", "b", "c"), log, ("a",), "a"), [])
        self.assertEqual(departure_ranks(("a", "b", "c"), log + log[:1], (), "b"), [1, 2])

    def test_ranks_of_a_car_of_the_lane(self):
        for car in ("d", "a", "b"):
            self.assertEqual(departure_ranks((), FIVE_EVENTS, ("d", "a", "b"), car), [])
        self.assertEqual(departure_ranks((), FIVE_EVENTS, ("d", "a", "b"), "c"), [0])

    def test_kinds_of_values(self):
        self.assertIs(type(history((), FIVE_EVENTS, ("d", "a", "b"))), list)
        self.assertIs(type(count_histories((), FIVE_EVENTS, ("d", "a", "b"))), int)
        self.assertIs(type(count_histories((), FIVE_EVENTS, ())), int)
        self.assertIs(type(departure_ranks((), FIVE_EVENTS, ("d", "a", "b"), "c")), list)
        self.assertIs(type(departure_ranks((), FIVE_EVENTS, (), "c")), list)


class TestAllHistories(unittest.TestCase):

    def test_small_cases(self):
        for start, log, found in brute.small_outcomes(SMALL):
            self.check(start, log, found)

    def test_longer_logs(self):
        source = random.Random(7)
        for _ in range(25):
            start = brute.START_NAMES[:source.randrange(7)]
            log = random_log(source, start, source.randrange(7, 10), 7)
            self.check(start, log, brute.outcomes(start, log))

    def check(self, start, log, found):
        cars = brute.all_cars(start, log)
        counted = 0
        for lane, histories in found.items():
            case = (start, log, lane)
            sides = history(start, log, lane)
            self.assertEqual(replay(start, log, sides)[0], lane, case)
            self.assertEqual(sides, brute.rule_history(start, log, lane), case)
            self.assertEqual(count_histories(start, log, lane), len(histories), case)
            counted += len(histories)
            for car in cars:
                ranks = sorted({gone.index(car) for _, gone in histories if car in gone})
                self.assertEqual(departure_ranks(start, log, lane, car), ranks, case + (car,))
        self.assertEqual(counted, 2 ** len(log))

    def test_impossible_lanes(self):
        for start, log, found in brute.small_outcomes((5, 4, 4, 3)):
            for lane in brute.lanes_of_size(start, log):
                if lane not in found:
                    self.assertIsNone(history(start, log, lane))
                    self.assertEqual(count_histories(start, log, lane), 0)
                    for car in brute.all_cars(start, log):
                        self.assertEqual(departure_ranks(start, log, lane, car), [])


class TestLargeCases(unittest.TestCase):

    def test_lanes_of_histories(self):
        source = random.Random(8)
        for start, log in large_cases():
            cars = brute.all_cars(start, log)
            for _ in range(3):
                lane, departed = replay(start, log, random_sides(source, log))
                sides = quickly(self, history, start, log, lane)
                self.assertEqual(sides, brute.rule_history(start, log, lane))
                final, gone = replay(start, log, sides)
                self.assertEqual(final, lane)
                self.assertGreater(quickly(self, count_histories, start, log, lane), 0)
                for car in source.sample(cars, 10):
                    ranks = quickly(self, departure_ranks, start, log, lane, car)
                    self.assertEqual(ranks, sorted(set(ranks)))
                    if car in lane:
                        self.assertEqual(ranks, [])
                    else:
                        self.assertIn(gone.index(car), ranks)
                        self.assertIn(departed.index(car), ranks)

    def test_sixty_cars_one_after_the_other(self):
        log = build_log("+-" * 60)
        self.assertEqual(quickly(self, history, (), log, ()), ["R", "L"] * 60)
        self.assertEqual(quickly(self, count_histories, (), log, ()), 2 ** 120)
        for number, car in enumerate(brute.all_cars((), log)):
            self.assertEqual(quickly(self, departure_ranks, (), log, (), car), [number])

    def test_sixty_cars_beside_one_that_stays(self):
        log = build_log("+-" * 60)
        self.assertEqual(quickly(self, history, ("s",), log, ("s",)), ["R"] * 120)
        self.assertEqual(quickly(self, count_histories, ("s",), log, ("s",)), 2 ** 60)
        for number, car in enumerate(brute.all_cars((), log)):
            self.assertEqual(quickly(self, departure_ranks, ("s",), log, ("s",), car), [number])

    def test_52_cars_that_come_and_go(self):
        # Each car can be passed by all later ones while some other car is further in.
        log = [("in", "s")] + build_log("+" * 26 + "+-" * 26 + "-" * 26)
        cars = brute.all_cars((), log)[1:]
        self.assertEqual(len(cars), 52)
        self.assertEqual(quickly(self, count_histories, (), log, ("s",)) % 2, 0)
        self.assertEqual(quickly(self, departure_ranks, (), log, ("s",), cars[0]), list(range(52)))
        self.assertEqual(quickly(self, departure_ranks, (), log, ("s",), cars[51]), list(range(25, 52)))
        self.assertEqual(quickly(self, departure_ranks, (), log, ("s",), "s"), [])

    def test_40_leavers_on_both_sides(self):
        log = build_log("-+" * 40) + [("out",)] * 39
        lane = (START_40[20],)
        total = quickly(self, count_histories, START_40, log, lane)
        self.assertGreater(total, 2 ** 40)
        # A car of start departs after those further out, and all others may depart before it.
        for place in (0, 1, 10, 18):
            ranks = quickly(self, departure_ranks, START_40, log, lane, START_40[place])
            self.assertEqual(ranks, list(range(place, 60 + place)))
            ranks = quickly(self, departure_ranks, START_40, log, lane, START_40[39 - place])
            self.assertEqual(ranks, list(range(place, 61 + place)))


class TestErrors(unittest.TestCase):

    def calls(self):
        return [
            history, count_histories,
            lambda start, log, lane: departure_ranks(start, log, lane, "s"),
            lambda start, log, lane: departure_ranks(start, log, lane, None),
        ]

    def test_start(self):
        for function in self.calls():
            for start in wrong_values() + [["a"], ("a", "a")]:
                for log, lane in (([], ()), (None, None), ([("out",)], ("x",)), ([], ["a"])):
                    with self.assertRaises(InvalidLane):
                        function(start, log, lane)

    def test_log(self):
        for function in self.calls():
            for log in wrong_values() + [(), [("in", "s")], [("out",), ("out",)]]:
                for lane in ((), None, ("x",), ("s", "s"), ["s"]):
                    with self.assertRaises(InvalidLog):
                        function(("s",), log, lane)

    def test_lane(self):
        for function in self.calls():
            for lane in wrong_values() + [[], ["s"], ("s", "s"), ("S",), ("abcde",), ("x", "s", "x")]:
                with self.assertRaises(InvalidLane):
                    function(("s", "t"), [], lane)

    def test_unknown_car(self):
        log = [("in", "d"), ("out",)]
        wrong = ["x", "S", "", ("s",), ["s"], b"s", "in", "out", "st", Hostile()]
        for lane in (("s",), ("d",), (), ("x", "y"), ("s", "d")):
            for car in wrong + wrong_values():
                with self.assertRaises(UnknownCar):
                    departure_ranks(("s",), log, lane, car)
        with self.assertRaises(UnknownCar):
            departure_ranks((), [], (), "a")

    def test_unknown_car_is_checked_for_impossible_lanes(self):
        self.assertIs(is_possible(("s",), [], ("x",)), False)
        with self.assertRaises(UnknownCar):
            departure_ranks(("s",), [], ("x",), "x")
        self.assertEqual(departure_ranks(("s",), [], ("x",), "s"), [])


if __name__ == "__main__":
    unittest.main()
