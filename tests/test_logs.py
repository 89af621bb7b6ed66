"""[9], [10], [11] with [1] to [7]: lanes, logs and histories."""

import copy
import random
import unittest
from itertools import product

from openlane import logs
from openlane.errors import InvalidLane, InvalidLog, InvalidSides
from openlane.logs import is_lane, is_log, numbers, replay, sizes
from tests import brute
from tests.brute import FIVE_EVENTS

LETTERS = "abcdefghijklmnopqrstuvwxyz"
RIGHT_CARS = ("a", "z", "az", "zz", "abc", "aaa", "wxyz", "zzzz")
WRONG_TEXTS = (
    "", "abcde", "abcdefgh", "A", "aB", "Z", "1", "a1", " ", "a ", " a", "a b", "a-", "_", "?",
    "`", "{", "a\n", "\n", "\x00", "\xe9", "\xdf", "\u0430", "\u00aa", "\uff41", "\ud800",
    "a\u0301", "\U0001d41a",
)


class Hostile:
    """A value that nobody may compare or hash."""

    __hash__ = None

    def __eq__(self, other):
        raise RuntimeError("compared")


def wrong_values():
    """Values of every kind that are neither a lane, a log, a car nor a list of sides."""
    endless = []
    endless.append(endless)
    return [
        None, True, False, 0, 1, -1, 10 ** 30, 1.5, float("nan"), "", "a", "ab", "L", "in", b"", b"a",
        {}, {"a": 1}, set(), {"a"}, frozenset(), frozenset({"a"}), range(0), range(2), iter(()),
        object(), Hostile(), len, int, ("a", None), (None,), (True,), (1,), (1.0,), (b"a",),
        (("a",),), ((),), (["a"],), ([],), ({},), ("a", ["b"]), ("a", ("b",)), ("a", Hostile()),
        (Hostile(),), endless, (endless,), [None], [True], [0], ["a"], [[]], [()], [["in", "a"]],
        [("in", "a"), None], [("in", "a"), []], [{"in": "a"}], [Hostile()], [("in", Hostile())],
        [(Hostile(),)], [(Hostile(), "a")], [["L"]], [("L",)], ["l"], ["l", "R"], ["LR"], ["L", None],
    ]


class TestIsLane(unittest.TestCase):

    def test_examples(self):
        self.assertIs(is_lane(("a", "b", "a")), False)

    def test_lanes(self):
        for value in ((), ("a",), ("b", "a"), ("in",), ("out", "in"), RIGHT_CARS,
                      ("a", "aa", "aaa", "aaaa"), tuple(LETTERS)):
            self.assertIs(is_lane(value), True, value)

    def test_each_letter(self):
        for letter in LETTERS:
            self.assertIs(is_lane((letter, letter * 4)), True)

    def test_long_lanes(self):
        cars = tuple(first + second for first, second in product(LETTERS, LETTERS))
        self.assertIs(is_lane(cars[:40]), True)
        self.assertIs(is_lane(cars), True)
        self.assertIs(is_lane(cars[:39] + (cars[0],)), False)

    def test_cars_of_each_length(self):
        for length in range(9):
            self.assertIs(is_lane(("abcdefgh"[:length],)), 1 <= length <= 4)

    def test_wrong_cars(self):
        for text in WRONG_TEXTS:
            self.assertIs(is_lane((text,)), False, repr(text))
            self.assertIs(is_lane(("a", text)), False, repr(text))
            self.assertIs(is_lane((text, "a")), False, repr(text))

    def test_every_ascii_character(self):
        for code in range(256):
            self.assertIs(is_lane((chr(code),)), chr(code) in LETTERS, code)
            self.assertIs(is_lane(("a" + chr(code) + "b",)), chr(code) in LETTERS, code)

    def test_same_car_twice(self):
        for value in (("a", "a"), ("a", "b", "b"), ("ab", "c", "d", "ab")):
            self.assertIs(is_lane(value), False)

    def test_lists_in_place_of_tuples(self):
        for value in ([], ["a"], ["a", "b"], (("a",), "b"), (["a"],), ((),)):
            self.assertIs(is_lane(value), False)

    def test_any_value(self):
        for value in wrong_values():
            self.assertIs(is_lane(value), False)


class TestIsLog(unittest.TestCase):

    def test_examples(self):
        self.assertIs(is_log(("a",), [("out",), ("in", "b")]), True)

    def test_logs(self):
        self.assertIs(is_log((), []), True)
        self.assertIs(is_log(("a",), []), True)
        self.assertIs(is_log((), FIVE_EVENTS), True)
        self.assertIs(is_log(("in", "out"), [("in", "ins"), ("out",), ("out",), ("out",)]), True)
        for car in RIGHT_CARS:
            self.assertIs(is_log((), [("in", car)]), True)

    def test_log_of_120_events(self):
        log, start = long_log()
        self.assertIs(is_log(start, log), True)
        self.assertIs(is_log(start, log + [("in", log[0][1])]), False)

    def test_all_words_of_small_logs(self):
        for cars, words in product(range(4), product(("in", "out"), repeat=5)):
            names = iter(brute.ARRIVING_NAMES)
            log = [("in", next(names)) if word == "in" else ("out",) for word in words]
            start = brute.START_NAMES[:cars]
            enough = all(brute.size_at(start, log, moment) >= 0 for moment in range(6))
            self.assertIs(is_log(start, log), enough)

    def test_departure_without_a_car(self):
        self.assertIs(is_log((), [("out",)]), False)
        self.assertIs(is_log(("a",), [("out",), ("out",)]), False)
        self.assertIs(is_log((), [("in", "a"), ("out",), ("out",), ("in", "b")]), False)
        self.assertIs(is_log((), [("out",), ("in", "a")]), False)

    def test_car_arrives_again(self):
        self.assertIs(is_log(("a",), [("in", "a")]), False)
        self.assertIs(is_log(("a",), [("out",), ("in", "a")]), False)
        self.assertIs(is_log((), [("in", "a"), ("in", "a")]), False)
        self.assertIs(is_log((), [("in", "a"), ("out",), ("in", "a")]), False)
        self.assertIs(is_log(("b",), [("in", "a"), ("out",), ("out",), ("in", "a")]), False)

    def test_wrong_events(self):
        events = [
            (), ("in",), ("out", "a"), ("out", None), ("in", "a", "b"), ("in", "a", None), ("a",),
            ("a", "b"), ("a", "in"), ("IN", "a"), ("OUT",), ("", "a"), ("",), (None,), (None, "a"),
            (True, "a"), (0,), (b"in", "a"), (b"out",), ("in", None), ("in", 1), ("in", ["a"]),
            ("in", ("a",)), ("in", b"a"), ("in", True), ["in", "a"], ["out"], "in", "out", "ia",
            "+a", "-", None, 0, True, {}, {"in": "a"}, {"out"}, [], (("in", "a"),), (("out",),),
            [("out",)], (("in",), "a"), (["out"],), Hostile(), (Hostile(),), (Hostile(), "a"),
            ("in", Hostile()), ("in ", "a"), ("out ",), ("ins", "a"), ("o",),
        ]
        for event in events:
            for log in ([event], [("in", "x"), event], [event, ("in", "x")]):
                self.assertIs(is_log(("s", "t"), log), False, type(event))

    def test_wrong_cars(self):
        for text in WRONG_TEXTS:
            self.assertIs(is_log(("s",), [("in", text)]), False, repr(text))

    def test_tuples_in_place_of_lists(self):
        self.assertIs(is_log(("a",), ()), False)
        self.assertIs(is_log(("a",), (("out",),)), False)
        self.assertIs(is_log(("a",), ("out",)), False)
        self.assertIs(is_log(("a",), tuple(FIVE_EVENTS[1:])), False)

    def test_any_value(self):
        for value in wrong_values():
            self.assertIs(is_log(("s",), value), False)

    def test_invalid_start(self):
        for start in wrong_values() + [[], ["a"], ("a", "a"), ("A",), ("abcde",)]:
            for log in ([], [("in", "b")], None, 0, [("out",)]):
                with self.assertRaises(InvalidLane):
                    is_log(start, log)


def long_log():
    """A log of 120 events and its lane of 20 cars."""
    start = tuple("s" + letter for letter in LETTERS[:20])
    log = []
    for number in range(60):
        log.append(("in", LETTERS[number // 26] + LETTERS[number % 26] + "x"))
        log.append(("out",))
    return log, start


class TestSizesAndNumbers(unittest.TestCase):

    def test_examples(self):
        self.assertEqual(sizes((), FIVE_EVENTS), [0, 1, 2, 3, 2, 3])
        self.assertEqual(numbers(("x",), [("out",), ("in", "a")]), ["x", "a"])

    def test_ordinary_logs(self):
        self.assertEqual(sizes(("x", "y"), [("out",), ("out",), ("in", "a")]), [2, 1, 0, 1])
        self.assertEqual(numbers((), FIVE_EVENTS), ["a", "b", "c", "d"])
        log = [("in", "z"), ("out",), ("in", "a"), ("in", "m")]
        self.assertEqual(numbers(("y", "b"), log), ["y", "b", "z", "a", "m"])

    def test_empty(self):
        self.assertEqual(sizes((), []), [0])
        self.assertEqual(sizes(("c", "a"), []), [2])
        self.assertEqual(numbers((), []), [])
        self.assertEqual(numbers(("c", "a"), []), ["c", "a"])

    def test_120_events(self):
        log, start = long_log()
        self.assertEqual(sizes(start, log), [20] + [21, 20] * 60)
        self.assertEqual(numbers(start, log), list(start) + [event[1] for event in log[::2]])

    def test_small_cases(self):
        for start, log in brute.small_cases((6, 5, 5, 4)):
            moments = range(len(log) + 1)
            expected = [brute.size_at(start, log, moment) for moment in moments]
            self.assertEqual(sizes(start, log), expected)
            self.assertEqual(numbers(start, log), brute.all_cars(start, log))

    def test_returned_values_are_lists(self):
        for function in (sizes, numbers):
            self.assertIs(type(function(("a",), FIVE_EVENTS[1:])), list)

    def test_errors(self):
        for function in (sizes, numbers):
            for start in wrong_values() + [["a"], ("a", "a")]:
                for log in ([], None, [("out",)]):
                    with self.assertRaises(InvalidLane):
                        function(start, log)
            for log in wrong_values() + [(), [("in", "s")], [("out",), ("out",)]]:
                with self.assertRaises(InvalidLog):
                    function(("s",), log)


class TestReplay(unittest.TestCase):

    def test_examples(self):
        found = replay((), FIVE_EVENTS, ["R", "R", "R", "R", "L"])
        self.assertEqual(found, (("d", "a", "b"), ["c"]))

    def test_ordinary_histories(self):
        log = [("in", "a"), ("out",), ("out",), ("in", "b")]
        self.assertEqual(replay(("x", "y"), log, ["L", "L", "L", "L"]), (("b", "y"), ["a", "x"]))
        self.assertEqual(replay(("x", "y"), log, ["L", "R", "R", "R"]), (("a", "b"), ["y", "x"]))
        self.assertEqual(replay(("x", "y"), log, ["R", "L", "R", "L"]), (("b", "y"), ["x", "a"]))

    def test_empty(self):
        self.assertEqual(replay((), [], []), ((), []))
        self.assertEqual(replay(("b", "a"), [], []), (("b", "a"), []))
        self.assertEqual(replay(("a",), [("out",)], ["L"]), ((), ["a"]))
        self.assertEqual(replay(("a",), [("out",)], ["R"]), ((), ["a"]))

    def test_all_small_histories(self):
        for start, log in brute.small_cases((6, 5, 5, 4)):
            for sides in product("LR", repeat=len(log)):
                self.assertEqual(replay(start, log, list(sides)), brute.run(start, log, sides))

    def test_120_events(self):
        log, start = long_log()
        source = random.Random(1)
        for _ in range(20):
            sides = [source.choice("LR") for _ in log]
            self.assertEqual(replay(start, log, sides), brute.run(start, log, sides))
        # Each car departs at the end at which it has just arrived.
        self.assertEqual(replay(start, log, ["L"] * 120)[0], start)

    def test_kinds_of_values(self):
        found = replay((), FIVE_EVENTS, list("LLLLL"))
        self.assertIs(type(found), tuple)
        self.assertIs(type(found[0]), tuple)
        self.assertIs(type(found[1]), list)

    def test_wrong_sides(self):
        log = [("in", "a"), ("out",)]
        wrong = [
            [], ["L"], ["L", "R", "L"], ["L", "l"], ["r", "R"], ["L", ""], ["L", "LR"], ["L", "X"],
            ["L", None], ["L", True], ["L", 0], ["L", b"R"], ["L", ["R"]], ["L", ("R",)], [["L", "R"]],
            ("L", "R"), "LR", b"LR", {"L": 0, "R": 1}, {"L", "R"}, None, 0, True, ["left", "right"],
            ["L", Hostile()], [Hostile(), "L"], Hostile(), ["L", "R "], [" L", "R"], iter("LR"),
        ]
        for sides in wrong + wrong_values():
            with self.assertRaises(InvalidSides):
                replay(("s",), log, sides)

    def test_wrong_sides_for_the_empty_log(self):
        for sides in ((), "", None, 0, False, {}, ["L"], [None]):
            with self.assertRaises(InvalidSides):
                replay((), [], sides)

    def test_order_of_errors(self):
        with self.assertRaises(InvalidLane):
            replay(["a"], None, None)
        with self.assertRaises(InvalidLane):
            replay(("a", "a"), [("in", "a")], [])
        with self.assertRaises(InvalidLog):
            replay((), [("out",)], None)
        with self.assertRaises(InvalidLog):
            replay((), [("in", "a"), ("in", "a")], ["L"])
        with self.assertRaises(InvalidLog):
            replay((), None, [])


class TestConventions(unittest.TestCase):

    def test_arguments_are_unchanged(self):
        start, log, sides = ("s", "t"), list(FIVE_EVENTS), list("LRLRL")
        kept = copy.deepcopy((start, log, sides))
        is_lane(start)
        is_log(start, log)
        sizes(start, log)
        numbers(start, log)
        replay(start, log, sides)
        self.assertEqual((start, log, sides), kept)

    def test_returned_lists_are_new(self):
        start, log, sides = ("s", "t"), list(FIVE_EVENTS), list("LRLRL")
        calls = (
            lambda: sizes(start, log), lambda: numbers(start, log),
            lambda: replay(start, log, sides)[1],
        )
        for call in calls:
            first = call()
            kept = list(first)
            second = call()
            self.assertIsNot(first, second)
            self.assertIsNot(first, log)
            self.assertIsNot(first, sides)
            first.append("changed")
            first[0] = "changed"
            self.assertEqual(second, kept)
            self.assertEqual(call(), kept)

    def test_results_stay_when_arguments_change(self):
        log, sides = [("in", "a"), ("out",)], ["L", "R"]
        counts, cars, found = sizes(("s",), log), numbers(("s",), log), replay(("s",), log, sides)
        log.clear()
        sides.clear()
        self.assertEqual((counts, cars, found), ([1, 2, 1], ["s", "a"], (("a",), ["s"])))

    def test_a_changed_log_is_answered_anew(self):
        log, sides = [("in", "a"), ("in", "b"), ("out",)], ["L", "R", "L"]
        self.assertEqual(replay((), log, sides), (("b",), ["a"]))
        sides[2] = "R"
        self.assertEqual(replay((), log, sides), (("a",), ["b"]))
        log[1] = ("in", "c")
        self.assertEqual(numbers((), log), ["a", "c"])
        self.assertEqual(replay((), log, sides), (("a",), ["c"]))
        log.append(("out",))
        self.assertEqual(sizes((), log), [0, 1, 2, 1, 0])
        self.assertIs(is_log((), log), True)
        log.append(("out",))
        self.assertIs(is_log((), log), False)
        with self.assertRaises(InvalidLog):
            sizes((), log)

    def test_arguments_by_name(self):
        log, sides = list(FIVE_EVENTS), list("RRRRL")
        self.assertIs(is_lane(value=("a",)), True)
        self.assertIs(is_log(value=log, start=()), True)
        self.assertEqual(sizes(log=log, start=()), sizes((), log))
        self.assertEqual(numbers(log=log, start=()), numbers((), log))
        self.assertEqual(replay(sides=sides, log=log, start=()), replay((), log, sides))
        self.assertEqual(replay((), log, sides=sides), replay((), log, sides))

    def test_the_functions_stand_in_their_file(self):
        for name in ("is_lane", "is_log", "sizes", "numbers", "replay"):
            self.assertEqual(getattr(logs, name).__module__, "openlane.logs")


if __name__ == "__main__":
    unittest.main()
