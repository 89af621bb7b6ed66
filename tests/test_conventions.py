"""[1], [2], [3] for the functions of sections 6 to 10: what holds for all of them."""

import copy
import inspect
import unittest

from openlane import counting, histories, lanes, patterns, positions, sightings
from openlane.counting import nth_lane, rank_lane
from openlane.errors import InvalidLane, InvalidLog, LaneError
from openlane.histories import departure_ranks, history
from openlane.lanes import is_possible
from openlane.logs import replay
from openlane.positions import left_ends
from tests.brute import FIVE_EVENTS

LANE = ("d", "a", "b")
SEEN = [(2, ("a", "b")), (5, LANE)]
LATER_SEEN = [(1, ("a",)), (4, ("a", "c"))]

# Each function with the names of its parameters behind start and log, and two sets of values.
FUNCTIONS = (
    (lanes, "is_possible", ("lane",), (LANE,), (("a", "b", "c"),)),
    (lanes, "why_not", ("lane",), (("a", "b", "c"),), (LANE,)),
    (histories, "history", ("lane",), (LANE,), (("a", "b", "c"),)),
    (histories, "count_histories", ("lane",), (LANE,), (("a", "b", "c"),)),
    (histories, "departure_ranks", ("lane", "car"), (LANE, "c"), (("b", "c", "d"), "a")),
    (counting, "count_orders", ("cars",), (("d", "b", "a"),), (("a", "b", "c"),)),
    (counting, "count_lanes", (), (), ()),
    (counting, "nth_lane", ("index",), (2,), (11,)),
    (counting, "rank_lane", ("lane",), (LANE,), (("b", "c", "d"),)),
    (positions, "left_ends", (), (), ()),
    (positions, "left_range", ("car",), ("a",), ("d",)),
    (positions, "can_touch", ("first", "second"), ("a", "b"), ("d", "c")),
    (patterns, "count_matching", ("pattern",), ((None, "a", None),), (("d", None, "b"),)),
    (patterns, "first_matching", ("pattern",), ((None, "a", None),), (("a", "b", "c"),)),
    (sightings, "first_conflict", ("sightings",), (SEEN,), ([(0, ()), (1, ())],)),
    (sightings, "count_agreeing", ("sightings",), (SEEN,), (LATER_SEEN,)),
    (sightings, "seen_history", ("sightings",), (SEEN,), (LATER_SEEN,)),
)

ANSWERS = {
    "is_possible": (True, False),
    "why_not": (("moment", 4), None),
    "history": (["R", "R", "R", "R", "L"], None),
    "count_histories": (4, 0),
    "departure_ranks": ([0], [0]),
    "count_orders": (4, 0),
    "count_lanes": (12, 12),
    "nth_lane": (("d", "a", "b"), ("b", "c", "d")),
    "rank_lane": (2, 11),
    "left_ends": (["a", "b", "c", "d"], ["a", "b", "c", "d"]),
    "left_range": ((0, 2), (0, 2)),
    "can_touch": (True, True),
    "count_matching": (4, 2),
    "first_matching": (("b", "a", "d"), None),
    "first_conflict": (None, 1),
    "count_agreeing": (4, 4),
    "seen_history": (["R", "R", "R", "R", "L"], ["L", "L", "R", "L"]),
}


class TestConventions(unittest.TestCase):

    def each(self):
        """Each function with its name, its parameters and, twice, its values."""
        for module, name, parameters, *cases in FUNCTIONS:
            for values in cases:
                with self.subTest(name, values=values):
                    yield getattr(module, name), ("start", "log") + parameters, values

    def test_answers(self):
        for module, name, _, *cases in FUNCTIONS:
            function = getattr(module, name)
            found = tuple(function((), list(FIVE_EVENTS), *values) for values in cases)
            self.assertEqual(found, ANSWERS[name], name)

    def test_names_of_the_parameters(self):
        for function, parameters, _ in self.each():
            self.assertEqual(tuple(inspect.signature(function).parameters), parameters)

    def test_each_function_stands_in_its_file(self):
        for module, name, *_ in FUNCTIONS:
            self.assertEqual(getattr(module, name).__module__, module.__name__)

    def test_arguments_by_name(self):
        log = list(FIVE_EVENTS)
        for function, parameters, values in self.each():
            expected = function((), log, *values)
            named = list(zip(parameters, ((), log) + values))
            self.assertEqual(function(**dict(named)), expected)
            self.assertEqual(function(**dict(named[::-1])), expected)
            self.assertEqual(function((), **dict(named[1:])), expected)
            self.assertEqual(function((), log, **dict(named[2:])), expected)

    def test_arguments_are_unchanged(self):
        for function, _, values in self.each():
            for start in ((), ("s", "t")):
                log = list(FIVE_EVENTS)
                kept = copy.deepcopy((start, log, values))
                try:
                    function(start, log, *values)
                except LaneError:
                    pass
                self.assertEqual((start, log, values), kept)

    def test_returned_lists_are_new(self):
        for function, _, values in self.each():
            log = list(FIVE_EVENTS)
            first = function((), log, *values)
            kept = copy.deepcopy(first)
            second = function((), log, *values)
            if isinstance(first, list):
                self.assertIsNot(first, second)
                self.assertIsNot(first, log)
                first.append("changed")
                first[0] = "changed"
            self.assertEqual(second, kept)
            self.assertEqual(function((), log, *values), kept)

    def test_empty_lists_are_new(self):
        for call in (lambda: history((), [], ()), lambda: left_ends((), []),
                     lambda: departure_ranks(("s",), [], ("s",), "s"),
                     lambda: departure_ranks(("s",), [], (), "s")):
            first = call()
            self.assertEqual(first, [])
            first.append("changed")
            self.assertEqual(call(), [])

    def test_a_changed_log_is_answered_anew(self):
        changes = (
            lambda log: log.append(("out",)), lambda log: log.insert(3, ("in", "e")),
            lambda log: log.pop(0), lambda log: log.append(("in", "a")), lambda log: log.reverse(),
            lambda log: log.clear(),
        )
        for function, _, values in self.each():
            log = list(FIVE_EVENTS)
            for change in changes:
                answer(function, log, values)
                change(log)
                self.assertEqual(answer(function, log, values), answer(function, list(log), values))
        log = list(FIVE_EVENTS)
        self.assertIs(is_possible((), log, LANE), True)
        log[1] = ("in", "e")
        self.assertIs(is_possible((), log, LANE), False)
        self.assertIs(is_possible((), log, ("d", "a", "e")), True)
        self.assertEqual(nth_lane((), log, 2), ("d", "a", "e"))
        self.assertEqual(left_ends((), log), ["a", "e", "c", "d"])

    def test_results_stay_when_arguments_change(self):
        for function, _, values in self.each():
            log = list(FIVE_EVENTS)
            found = function((), log, *values)
            kept = copy.deepcopy(found)
            log.clear()
            self.assertEqual(found, kept)

    def test_returned_values_may_be_passed_back(self):
        for index in range(12):
            lane = nth_lane((), FIVE_EVENTS, index)
            self.assertEqual(rank_lane((), FIVE_EVENTS, lane), index)
            sides = history((), FIVE_EVENTS, lane)
            final, departed = replay((), FIVE_EVENTS, sides)
            self.assertEqual(final, lane)
            self.assertEqual(departure_ranks((), FIVE_EVENTS, final, departed[0]), [0])
            self.assertIs(is_possible(final, [], final), True)

    def test_start_is_checked_before_the_log_before_the_rest(self):
        wrong = (None, "x", True, ["a"], ("a", "a"), -1, ("x",))
        for function, parameters, _ in self.each():
            for value in wrong:
                values = (value,) * (len(parameters) - 2)
                for log in (None, [("out",)], list(FIVE_EVENTS)):
                    with self.assertRaises(InvalidLane):
                        function(["a"], log, *values)
                with self.assertRaises(InvalidLog):
                    function((), [("out",)], *values)


def answer(function, log, values):
    """The answer of a function, or the class of its error."""
    try:
        return function((), log, *values)
    except LaneError as error:
        return type(error)


if __name__ == "__main__":
    unittest.main()
