"""[12], [13], [14] with [1], [2], [3], [6], [7], [8]: sets of stayers."""

import copy
import random
import time
import unittest

from openlane import stayers
from openlane.errors import InvalidCars, InvalidLane, InvalidLog, UnknownCar
from openlane.stayers import can_stay, complete, why_cannot_stay
from tests import brute
from tests.brute import FIVE_EVENTS
from tests.test_logs import wrong_values

FUNCTIONS = (can_stay, why_cannot_stay, complete)

# Index n is the greatest length of the logs for lanes of n cars.
SMALL = (7, 6, 6, 5, 5, 5, 4)


class TestExamples(unittest.TestCase):

    def test_can_stay(self):
        self.assertIs(can_stay((), FIVE_EVENTS, ("a", "b", "c")), False)
        self.assertIs(can_stay((), FIVE_EVENTS, ("a", "b", "d")), True)

    def test_why_cannot_stay(self):
        self.assertEqual(why_cannot_stay((), FIVE_EVENTS, ("a", "b", "c")), ("moment", 4))
        log = [("in", "d"), ("out",), ("out",)]
        found = why_cannot_stay(("a", "b", "c"), log, ("b", "d"))
        self.assertEqual(found, ("sides", 1, 1, 0))

    def test_complete(self):
        self.assertEqual(complete((), FIVE_EVENTS, ("c",)), ("a", "c", "d"))


class TestOrdinaryCases(unittest.TestCase):

    def test_each_reason(self):
        start = ("p", "q", "r", "s", "t")
        log = [("out",), ("in", "a"), ("out",), ("out",), ("in", "b"), ("out",)]
        cases = [
            (("q", "r", "s", "b"), ("size", 3)),
            (("p",), ("size", 3)),
            ((), ("size", 3)),
            (("q", "r", "s"), None),
            (("p", "r", "s"), ("block", "q")),
            (("p", "q", "t"), ("block", "r")),
            (("p", "t", "r"), ("block", "q")),
            (("r", "a", "b"), ("sides", 2, 2, 1)),
            (("q", "a", "b"), None),
            (("q", "r", "b"), None),
            (("r", "s", "a"), None),
            (("a", "b", "t"), None),
        ]
        for cars, expected in cases:
            self.assertEqual(why_cannot_stay(start, log, cars), expected)
            self.assertIs(can_stay(start, log, cars), expected is None)

    def test_size_is_before_moment(self):
        log = [("in", "a"), ("out",), ("in", "b")]
        self.assertEqual(why_cannot_stay(("x",), log, ("x", "a", "b")), ("size", 2))
        self.assertEqual(why_cannot_stay(("x",), log, ("x", "a")), ("moment", 2))

    def test_moment_is_before_block(self):
        start, log = ("x", "y", "z"), [("out",), ("out",), ("in", "a")]
        self.assertEqual(why_cannot_stay(start, log, ("x", "z")), ("moment", 2))
        self.assertEqual(why_cannot_stay(start, log + [("in", "b")], ("z", "x", "y")), ("moment", 1))

    def test_moment_may_be_one_between_two_arrivals(self):
        log = [("out",), ("out",), ("in", "a"), ("out",), ("in", "b"), ("in", "c")]
        self.assertEqual(why_cannot_stay(("x", "y"), log, ("x", "a")), ("moment", 2))
        self.assertEqual(why_cannot_stay(("x", "y"), log, ("b", "a")), ("moment", 4))
        self.assertIsNone(why_cannot_stay(("x", "y"), log, ("c", "b")))

    def test_block_is_before_sides(self):
        start = ("p", "q", "r", "s", "t")
        log = [("in", "a"), ("out",), ("out",), ("out",)]
        self.assertEqual(why_cannot_stay(start, log, ("q", "s", "a")), ("block", "r"))
        self.assertEqual(why_cannot_stay(start, log, ("q", "r", "a")), ("sides", 1, 2, 0))
        self.assertEqual(why_cannot_stay(start, log, ("r", "s", "a")), ("sides", 2, 1, 0))
        self.assertIsNone(why_cannot_stay(start, log, ("p", "q", "a")))
        self.assertIsNone(why_cannot_stay(start, log, ("q", "r", "s")))

    def test_only_departures_before_the_first_arriving_stayer_count(self):
        start = ("p", "q", "r")
        log = [("in", "a"), ("out",), ("in", "b"), ("out",), ("in", "c"), ("out",), ("out",)]
        self.assertEqual(why_cannot_stay(start, log, ("q", "a")), ("sides", 1, 1, 0))
        self.assertIsNone(why_cannot_stay(start, log, ("q", "b")))

    def test_empty_sets_and_lanes(self):
        self.assertIs(can_stay((), [], ()), True)
        self.assertIsNone(why_cannot_stay((), [], ()))
        self.assertEqual(complete((), [], ()), ())
        self.assertIs(can_stay(("a",), [("out",)], ()), True)
        self.assertEqual(why_cannot_stay(("a",), [("out",)], ("a",)), ("size", 0))
        self.assertEqual(complete(("a",), [("out",)], ()), ())
        self.assertIsNone(complete(("a",), [("out",)], ("a",)))
        self.assertEqual(why_cannot_stay(("a",), [], ()), ("size", 1))
        self.assertEqual(complete(("a",), [], ()), ("a",))
        self.assertEqual(complete((), [("in", "a")], ()), ("a",))

    def test_complete_orders_by_number_not_by_name(self):
        log = [("in", "z"), ("in", "a"), ("out",)]
        self.assertEqual(complete(("q",), log, ()), ("q", "z"))
        self.assertEqual(complete(("q",), log, ("a",)), ("q", "a"))
        self.assertEqual(complete(("q",), log, ("a", "z")), ("z", "a"))

    def test_complete_takes_the_longer_block(self):
        start = ("p", "q", "r")
        log = [("out",), ("in", "a"), ("out",), ("in", "b")]
        self.assertEqual(complete(start, log, ()), ("p", "q", "b"))
        self.assertIsNone(complete(start, log, ("r", "p")))

    def test_complete_of_a_set_that_cannot_stay(self):
        self.assertIsNone(complete((), FIVE_EVENTS, ("a", "b", "c")))
        self.assertIsNone(complete((), FIVE_EVENTS, ("a", "b", "c", "d")))
        self.assertEqual(complete((), FIVE_EVENTS, ("a", "b", "d")), ("a", "b", "d"))

    def test_kinds_of_values(self):
        self.assertIs(type(why_cannot_stay((), FIVE_EVENTS, ())), tuple)
        self.assertIs(type(complete((), FIVE_EVENTS, ())), tuple)


class TestAllHistories(unittest.TestCase):

    def test_sets_that_can_stay(self):
        for start, log in brute.small_cases(SMALL):
            sets = brute.final_sets(start, log)
            for cars in brute.subsets(brute.all_cars(start, log)):
                self.assertIs(can_stay(start, log, cars), frozenset(cars) in sets, (start, log, cars))

    def test_reasons(self):
        for start, log in brute.small_cases(SMALL):
            sets = brute.final_sets(start, log)
            for cars in brute.subsets(brute.all_cars(start, log)):
                expected = None if frozenset(cars) in sets else brute.reason(start, log, cars)
                self.assertEqual(why_cannot_stay(start, log, cars), expected, (start, log, cars))

    def test_smallest_sets(self):
        for start, log in brute.small_cases(SMALL):
            sets = brute.final_sets(start, log)
            for cars in brute.subsets(brute.all_cars(start, log)):
                expected = brute.smallest_superset(start, log, sets, cars)
                self.assertEqual(complete(start, log, cars), expected, (start, log, cars))

    def test_longer_logs(self):
        source = random.Random(2)
        for _ in range(150):
            start = brute.START_NAMES[:source.randrange(7)]
            log = random_log(source, start, 10, 8)
            sets = brute.final_sets(start, log)
            cars = brute.all_cars(start, log)
            for _ in range(60):
                given = tuple(source.sample(cars, source.randrange(len(cars) + 1)))
                self.check(start, log, sets, given)
            for given in sorted(tuple(sorted(each)) for each in sets)[:40]:
                self.check(start, log, sets, given)

    def check(self, start, log, sets, given):
        stays = frozenset(given) in sets
        expected = None if stays else brute.reason(start, log, given)
        self.assertIs(can_stay(start, log, given), stays)
        self.assertEqual(why_cannot_stay(start, log, given), expected)
        expected = brute.smallest_superset(start, log, sets, given)
        self.assertEqual(complete(start, log, given), expected)

    def test_order_of_the_cars_has_no_effect(self):
        source = random.Random(3)
        for start, log in brute.small_cases((5, 4, 4, 4, 3, 3)):
            for cars in brute.subsets(brute.all_cars(start, log)):
                mixed = tuple(source.sample(cars, len(cars)))
                for function in FUNCTIONS:
                    expected = function(start, log, cars)
                    self.assertEqual(function(start, log, cars[::-1]), expected)
                    self.assertEqual(function(start, log, mixed), expected)


def random_log(source, start, length, most):
    """A log with at most so many cars present at any moment."""
    log = []
    present = len(start)
    for number in range(length):
        if present == 0 or present < most and source.random() < 0.5:
            log.append(("in", "n" + brute.START_NAMES[number // 26][0] + chr(97 + number % 26)))
            present += 1
        else:
            log.append(("out",))
            present -= 1
    return log


START_40 = tuple("s" + chr(97 + number // 20) + chr(97 + number % 20) for number in range(40))


class TestLargeCases(unittest.TestCase):

    def quickly(self, function, *values):
        begin = time.perf_counter()
        found = function(*values)
        self.assertLess(time.perf_counter() - begin, 2)
        return found

    def test_40_cars_and_120_events(self):
        source = random.Random(4)
        for _ in range(20):
            log = random_log(source, START_40, 120, 40)
            cars = brute.all_cars(START_40, log)
            for count in (0, 1, 2, 5, 20):
                given = tuple(source.sample(cars, count))
                found = self.quickly(complete, START_40, log, given)
                if found is not None:
                    self.assertTrue(set(given) <= set(found))
                    self.assertIs(self.quickly(can_stay, START_40, log, found), True)
                    self.assertIsNone(self.quickly(why_cannot_stay, START_40, log, found))
                    self.assertEqual(complete(START_40, log, found), found)

    def test_a_known_answer(self):
        log = [("out",)] * 20 + [("in", "a" + chr(97 + number)) for number in range(20)]
        log += [("out",)] * 20 + [("in", "b" + chr(97 + number)) for number in range(20)]
        log += [("out",)] * 20 + [("in", "c" + chr(97 + number)) for number in range(20)]
        last = tuple("c" + chr(97 + number) for number in range(20))
        self.assertEqual(self.quickly(complete, START_40, log, ()), START_40[:20] + last)
        self.assertEqual(self.quickly(complete, START_40, log, ("bt",)), START_40[:19] + ("bt",) + last)
        self.assertEqual(self.quickly(complete, START_40, log, ("at",)), START_40[:19] + ("at",) + last)
        self.assertEqual(self.quickly(complete, START_40, log, START_40[20:40]), START_40[20:] + last)
        self.assertIsNone(self.quickly(complete, START_40, log, START_40[:21]))
        self.assertEqual(
            self.quickly(why_cannot_stay, START_40, log, START_40[:21] + last[1:]), ("moment", 20))
        self.assertIs(self.quickly(can_stay, START_40, log, START_40[10:30] + last), True)

    def test_one_departure_too_few(self):
        # At moment 31 there is room for ten cars of start beside the arriving "a".
        later = [("in", "n" + chr(97 + number // 26) + chr(97 + number % 26)) for number in range(59)]
        for before, possible in ((9, False), (10, True)):
            log = [("out",)] * before + [("in", "a")] + [("out",)] * (30 - before) + later[:29]
            for event in later[29:]:
                log += [("out",), event]
            self.assertEqual(len(log), 120)
            block = START_40[10:20]
            rest = ("a",) + tuple(event[1] for event in later[:28]) + (later[-1][1],)
            expected = block + rest if possible else None
            self.assertEqual(self.quickly(complete, START_40, log, (START_40[19], "a")), expected)
            reason = None if possible else ("sides", 10, 20, 9)
            self.assertEqual(self.quickly(why_cannot_stay, START_40, log, block + rest), reason)
            self.assertIs(self.quickly(can_stay, START_40, log, rest + block), possible)


class TestErrors(unittest.TestCase):

    def test_start(self):
        for function in FUNCTIONS:
            for start in wrong_values() + [["a"], ("a", "a")]:
                for log, cars in (([], ()), (None, None), ([("out",)], ("x",)), ([], ["a"])):
                    with self.assertRaises(InvalidLane):
                        function(start, log, cars)

    def test_log(self):
        for function in FUNCTIONS:
            for log in wrong_values() + [(), [("in", "s")], [("out",), ("out",)]]:
                for cars in ((), None, ("x",), ("s", "s"), ["s"]):
                    with self.assertRaises(InvalidLog):
                        function(("s",), log, cars)

    def test_cars(self):
        wrong = [[], ["s"], ("s", "s"), ("s", ""), ("S",), ("abcde",), ("s", "t", "s"), "s", {"s"}]
        for function in FUNCTIONS:
            for cars in wrong + wrong_values():
                with self.assertRaises(InvalidCars):
                    function(("s", "t"), [], cars)

    def test_invalid_cars_are_before_unknown_cars(self):
        for function in FUNCTIONS:
            for cars in (("x", "x"), ("x", None), ("x", "X"), ("x", "s", "s"), ["x"]):
                with self.assertRaises(InvalidCars):
                    function(("s",), [], cars)

    def test_unknown_cars(self):
        for function in FUNCTIONS:
            for cars in (("x",), ("s", "x"), ("x", "s"), ("a", "s", "x"), ("b",), ("in",), ("out",)):
                with self.assertRaises(UnknownCar):
                    function(("s",), [("in", "a"), ("out",)], cars)
            with self.assertRaises(UnknownCar):
                function((), [], ("a",))

    def test_departed_cars_are_known(self):
        log = [("out",), ("in", "a")]
        self.assertIs(can_stay(("s",), log, ("s",)), False)
        self.assertEqual(why_cannot_stay(("s",), log, ("s",)), ("moment", 1))
        self.assertIsNone(complete(("s",), log, ("s",)))


class TestConventions(unittest.TestCase):

    def test_arguments_are_unchanged(self):
        start, log, cars = ("s", "t"), list(FIVE_EVENTS), ("d", "a", "t")
        kept = copy.deepcopy((start, log, cars))
        for function in FUNCTIONS:
            for given in (cars, (), ("s",), ("s", "t", "a", "b", "c", "d")):
                function(start, log, given)
                self.assertEqual((start, log, cars), kept)

    def test_a_changed_log_is_answered_anew(self):
        log = [("in", "a"), ("in", "b"), ("out",)]
        self.assertIs(can_stay((), log, ("b",)), True)
        self.assertEqual(complete((), log, ()), ("a",))
        log.append(("in", "c"))
        self.assertEqual(why_cannot_stay((), log, ("b",)), ("size", 2))
        self.assertIs(can_stay((), log, ("b",)), False)
        self.assertEqual(complete((), log, ()), ("a", "c"))
        log[0] = ("in", "d")
        self.assertEqual(complete((), log, ()), ("d", "c"))
        with self.assertRaises(UnknownCar):
            complete((), log, ("a",))
        log.insert(0, ("out",))
        for function in FUNCTIONS:
            with self.assertRaises(InvalidLog):
                function((), log, ("b",))

    def test_answers_do_not_depend_on_earlier_calls(self):
        cases = [((), FIVE_EVENTS, ("c",)), (("s",), FIVE_EVENTS, ("c",)), ((), FIVE_EVENTS[:3], ())]
        first = [function(*case) for case in cases for function in FUNCTIONS]
        again = [function(*case) for case in cases for function in FUNCTIONS]
        self.assertEqual(first, again)

    def test_arguments_by_name(self):
        log, cars = list(FIVE_EVENTS), ("a", "b", "c")
        for function in FUNCTIONS:
            expected = function((), log, cars)
            self.assertEqual(function(cars=cars, log=log, start=()), expected)
            self.assertEqual(function((), log, cars=cars), expected)

    def test_returned_values_may_be_passed_back(self):
        found = complete(("s", "t"), FIVE_EVENTS, ())
        self.assertEqual(complete(("s", "t"), FIVE_EVENTS, found), found)
        self.assertIs(can_stay(found, [], found), True)

    def test_the_functions_stand_in_their_file(self):
        for name in ("can_stay", "why_cannot_stay", "complete"):
            self.assertEqual(getattr(stayers, name).__module__, "openlane.stayers")


if __name__ == "__main__":
    unittest.main()
