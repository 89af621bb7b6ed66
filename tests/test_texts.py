"""[27]: lanes, logs, sides and patterns as texts, and back."""

import random
import unittest
from itertools import product

from openlane import texts
from openlane.errors import InvalidLane, InvalidLog, InvalidPattern, InvalidSides, InvalidText
from openlane.logs import numbers, replay
from openlane.texts import (
    format_lane, format_log, format_pattern, format_sides, parse_lane, parse_log, parse_pattern, parse_sides)
from tests.brute import FIVE_EVENTS
from tests.cases import NAMES, large_cases
from tests.test_logs import LETTERS, RIGHT_CARS, WRONG_TEXTS, Hostile, wrong_values

PARSERS = (parse_lane, parse_log, parse_sides, parse_pattern)
SPACES = ("\t", "\n", "\r", "\x0b", "\x0c", "\x1c", "\x85", "\xa0", "\u2003", "\u2028", "\u3000", "\u200b")

# Each value with its text, for each kind of value.
LANES = (
    ((), ""), (("a",), "a"), (("b", "a"), "b a"), (("in", "out"), "in out"),
    (RIGHT_CARS, "a z az zz abc aaa wxyz zzzz"), (("L", "R")[:0], ""), (tuple(LETTERS), " ".join(LETTERS)),
)
LOGS = (
    ([], ""), ([("out",)], "-"), ([("in", "a")], "+a"), ([("in", "a"), ("out",)], "+a -"),
    ([("in", "a"), ("in", "b"), ("out",), ("in", "c")], "+a +b - +c"), ([("out",)] * 3, "- - -"),
    ([("out",), ("in", "out"), ("in", "in"), ("out",), ("out",), ("out",)], "- +out +in - - -"),
    (FIVE_EVENTS, "+a +b +c - +d"), ([("in", car) for car in RIGHT_CARS[:3]], "+a +z +az"),
)
SIDES = (
    ([], ""), (["L"], "L"), (["R"], "R"), (["L", "R"], "LR"), (["R", "L"], "RL"), (["L", "L", "R"], "LLR"),
    (["L"] * 125, "L" * 125),
)
PATTERNS = (
    ((), ""), ((None,), "?"), (("a",), "a"), (("a", None, "c"), "a ? c"), ((None, None), "? ?"),
    ((None, "abcd", None), "? abcd ?"), (("b", "a"), "b a"), ((None,) * 40, "? " * 39 + "?"),
)
KINDS = (
    (format_lane, parse_lane, LANES), (format_log, parse_log, LOGS), (format_sides, parse_sides, SIDES),
    (format_pattern, parse_pattern, PATTERNS),
)


class TestExamples(unittest.TestCase):

    def test_parse_log(self):
        self.assertEqual(parse_log("+a +b - +c"), [("in", "a"), ("in", "b"), ("out",), ("in", "c")])
        self.assertEqual(parse_log("-"), [("out",)])

    def test_format_log(self):
        self.assertEqual(format_log([("in", "a"), ("out",)]), "+a -")

    def test_parse_pattern(self):
        self.assertEqual(parse_pattern("a ? c"), ("a", None, "c"))

    def test_format_sides(self):
        self.assertEqual(format_sides(["L", "R"]), "LR")

    def test_parse_lane(self):
        with self.assertRaises(InvalidText):
            parse_lane("a  b")


class TestBothWays(unittest.TestCase):

    def test_each_kind(self):
        for form, parse, cases in KINDS:
            for value, text in cases:
                self.assertEqual(form(value), text)
                found = parse(text)
                self.assertEqual(found, value)
                self.assertIs(type(found), type(value))
                self.assertIs(type(form(value)), str)
                for entry, expected in zip(found, value):
                    self.assertIs(type(entry), type(expected))

    def test_random_values(self):
        source = random.Random(27)
        for _ in range(300):
            cars = source.sample(NAMES + ("x", "wxy", "zzzz"), source.randrange(41))
            lane = tuple(cars)
            pattern = tuple(source.choice((car, None)) for car in cars)
            log = [("in", car) if source.random() < 0.5 else ("out",) for car in cars]
            sides = [source.choice("LR") for _ in cars]
            values = (lane, log, sides, pattern)
            for (form, parse, _), value in zip(KINDS, values):
                text = form(value)
                self.assertEqual(parse(text), value)
                self.assertEqual(form(parse(text)), text)

    def test_large_values(self):
        for start, log in large_cases():
            self.assertEqual(parse_lane(format_lane(start)), start)
            self.assertEqual(parse_pattern(format_pattern(start)), start)
            text = format_log(log)
            self.assertLessEqual(len(text), 3000)
            self.assertEqual(parse_log(text), log)
            self.assertEqual(numbers(start, parse_log(text)), numbers(start, log))
        cars = tuple(one + two + three for one, two, three in product("abcdef", LETTERS, "klmn"))[:600]
        for value in (cars, [("in", car) for car in cars]):
            form, parse = (format_lane, parse_lane) if isinstance(value, tuple) else (format_log, parse_log)
            self.assertEqual(parse(form(value)), value)
        self.assertEqual(parse_sides("LR" * 1500), ["L", "R"] * 1500)
        self.assertEqual(parse_log("- " * 1499 + "-"), [("out",)] * 1500)

    def test_all_short_texts(self):
        """Whatever a parser takes is what the formatter of its value gives."""
        taken = [0, 0, 0, 0]
        for length in range(5):
            for signs in product("ab +-?LR", repeat=length):
                text = "".join(signs)
                for number, (form, parse, _) in enumerate(KINDS):
                    try:
                        value = parse(text)
                    except InvalidText:
                        continue
                    self.assertEqual(form(value), text)
                    taken[number] += 1
        # Lanes of no car, of one car, of two cars with one letter each, or with one and two letters.
        self.assertEqual(taken[0], 1 + (2 + 4 + 8 + 16) + 2 + (2 * 4 + 4 * 2))
        # Lists of up to four sides.
        self.assertEqual(taken[2], 1 + 2 + 4 + 8 + 16)
        # Logs: words with no departure, with one, and with two.
        self.assertEqual(taken[1], 1 + (2 + 4 + 8) + 1 + (2 + 2) + 1)


class TestDepartures(unittest.TestCase):

    def test_departures_are_not_counted(self):
        for log in ([("out",)], [("out",)] * 40, [("in", "a"), ("out",), ("out",), ("in", "b"), ("out",)]):
            self.assertEqual(parse_log(format_log(log)), log)
        self.assertEqual(parse_log("- - +a - -"), [("out",), ("out",), ("in", "a"), ("out",), ("out",)])

    def test_no_car_arrives_twice(self):
        for log in ([("in", "a"), ("in", "a")], [("in", "a"), ("out",), ("in", "a")],
                    [("in", "b"), ("in", "ab"), ("out",), ("out",), ("in", "ab")]):
            with self.assertRaises(InvalidLog):
                format_log(log)
        for text in ("+a +a", "+a - +a", "- +b +ab - - +ab", "+a +b +c +b"):
            with self.assertRaises(InvalidText):
                parse_log(text)


class TestWrongTexts(unittest.TestCase):

    def refuse(self, parse, wrong):
        for text in wrong:
            with self.assertRaises(InvalidText, msg=repr(text)):
                parse(text)

    def test_lanes(self):
        self.refuse(parse_lane, [
            "a a", "a b a", "ab c ab", "a a a", "?", "a ?", "a ? b", "+a", "-", "+a -", "+a +b", "a -", "L", "R",
            "LR", "a,b", "a, b", "(a)", "('a',)", "a.", "a1", "1", "a 1", "aB", "A", "A b", "abcde", "a abcde",
            "abcde a", "aaaaa", "None", "a;b", "a|b", "a-b", "a_b", "_",
        ])

    def test_logs(self):
        self.refuse(parse_log, [
            "a", "a b", "+", "+ a", "+ -", "++a", "+a+b", "+a-", "-a", "--", "-+a", "+-", "+a -b", "a -", "+a b",
            "in a", "out", "?", "+?", "+a ?", "+A", "+aB", "+a1", "+1", "+abcde", "- +abcde", "L", "+L", "LR",
            "+a,-", "+a, -", "- - +", "+a\u2212", "\u2212", "+a a", "- a",
        ])

    def test_sides(self):
        self.refuse(parse_sides, [
            "l", "r", "lr", "Lr", "lR", "L R", "L,R", "LX", "X", "1", "L1", "a", "LRa", "?", "L?", "-", "+", "L-",
            "LEFT", "['L']", "\u0130", "LR\u200b", "\uff2c",
        ])

    def test_patterns(self):
        self.refuse(parse_pattern, [
            "a a", "a ? a", "? b b", "??", "???", "a?", "?a", "a ??", "+a", "-", "a -", "+a ?", "L", "LR", "? L",
            "A", "? A", "a1", "1", "? 1", "abcde", "? abcde", "None", "*", "_", ".", "\u037e", "\uff1f",
        ])

    def test_spaces(self):
        for parse, texts_of in ((parse_lane, ("a", "a b", "a b c")), (parse_log, ("-", "+a", "+a -", "+a - +b")),
                                (parse_sides, ("L", "LR")), (parse_pattern, ("?", "a", "a ?", "? a ?"))):
            self.refuse(parse, [" ", "  ", "   "])
            for text in texts_of:
                self.refuse(parse, [" " + text, text + " ", " " + text + " ", "  " + text, text + "  "])
                if " " in text:
                    self.refuse(parse, [text.replace(" ", "  "), text.replace(" ", "  ", 1)])

    def test_other_white_space(self):
        for space in SPACES:
            for parse, text in ((parse_lane, "a b"), (parse_log, "+a -"), (parse_pattern, "a ?")):
                joined = text.replace(" ", space)
                self.refuse(parse, [
                    space, joined, text + space, space + text, text.replace(" ", " " + space),
                    text.replace(" ", space + " "), space + joined,
                ])
            self.refuse(parse_sides, [space, "L" + space + "R", "L" + space, space + "L"])

    def test_wrong_cars(self):
        for text in WRONG_TEXTS:
            if text in ("", "a b"):
                continue
            self.refuse(parse_log, ["+" + text, "- +" + text, "+x +" + text])
            self.refuse(parse_lane, [text, "x " + text, text + " x"])
            if text != "?":
                self.refuse(parse_pattern, [text, "? " + text, text + " ?"])
        self.refuse(parse_log, ["+", "- +", "+a b", "+x +"])

    def test_values_that_are_no_strings(self):
        wrong = [value for value in wrong_values() if not isinstance(value, str)]
        for parse in PARSERS:
            self.refuse(parse, wrong + [
                b"a", b"+a", b"L", b"?", ("a",), ["L"], ["a"], [("out",)], (None,), (), [], ["+a"], ("-",), Hostile(),
                list("LR"), bytearray(b"L"), 0, None, {"L": "R"},
            ])


class TestWrongValues(unittest.TestCase):

    def refuse(self, form, error, wrong):
        for value in wrong:
            with self.assertRaises(error):
                form(value)

    def test_lanes(self):
        self.refuse(format_lane, InvalidLane, wrong_values() + [
            [], ["a"], ["a", "b"], ("a", "a"), ("a", "b", "a"), (None,), ("a", None), "a b", "", b"", None,
            ("+a",), ("-",), ("?",), ("a b",), (("a", "b"),), {"a": "b"},
        ])
        self.refuse(format_lane, InvalidLane, [(text,) for text in WRONG_TEXTS])

    def test_logs(self):
        self.refuse(format_log, InvalidLog, wrong_values() + [
            (), (("out",),), [("in", "a"), ("in", "a")], [("in",)], [("out", "a")], [["in", "a"]], [["out"]],
            ["+a"], ["-"], "+a -", "", [("in", "a", "b")], [("in", None)], [("IN", "a")], [()], [None],
            [("out",), None], [("in", ("a",))], [("in", ["a"])], [("left", "a")], {("out",): 1},
        ])
        self.refuse(format_log, InvalidLog, [[("in", text)] for text in WRONG_TEXTS])

    def test_sides(self):
        self.refuse(format_sides, InvalidSides, wrong_values() + [
            (), ("L", "R"), "LR", "", ["LR"], ["l"], ["L", "r"], [""], ["L", ""], [None], ["L", None], [True], [0],
            [["L"]], ["L", ["R"]], [b"L"], ["L "], ["left"], {"L": "R"}, iter("LR"), [Hostile()],
        ])

    def test_patterns(self):
        wrong = [value for value in wrong_values()
                 if not isinstance(value, tuple) or not any(entry is None for entry in value)]
        self.refuse(format_pattern, InvalidPattern, wrong + [
            [], [None], ["a", None], ("a", "a"), ("a", None, "a"), ("?",), ("a", "?"), "a ?", "", "?", None, (0,),
            (False,), ("a", 0), ((),), ((None,),), ("a", ("b",)), (["a"],), (b"a",), ("a b",), {None: "a"},
        ])
        self.refuse(format_pattern, InvalidPattern, [(text,) for text in WRONG_TEXTS])
        self.refuse(format_pattern, InvalidPattern, [(None, text) for text in WRONG_TEXTS])


class TestConventions(unittest.TestCase):

    def test_arguments_by_name(self):
        self.assertEqual(format_lane(lane=("a", "b")), "a b")
        self.assertEqual(format_log(log=[("out",)]), "-")
        self.assertEqual(format_sides(sides=["L", "R"]), "LR")
        self.assertEqual(format_pattern(pattern=(None,)), "?")
        for parse, text, value in ((parse_lane, "a", ("a",)), (parse_log, "-", [("out",)]),
                                   (parse_sides, "L", ["L"]), (parse_pattern, "?", (None,))):
            self.assertEqual(parse(text=text), value)

    def test_arguments_are_unchanged_and_answered_anew(self):
        log, sides = [("in", "a"), ("out",)], ["L", "R"]
        self.assertEqual((format_log(log), format_sides(sides)), ("+a -", "LR"))
        self.assertEqual((log, sides), ([("in", "a"), ("out",)], ["L", "R"]))
        log[0] = ("in", "b")
        sides.append("R")
        self.assertEqual((format_log(log), format_sides(sides)), ("+b -", "LRR"))
        log.append(("in", "b"))
        sides[0] = "X"
        with self.assertRaises(InvalidLog):
            format_log(log)
        with self.assertRaises(InvalidSides):
            format_sides(sides)

    def test_returned_lists_are_new(self):
        for parse, text, value in ((parse_log, "+a -", [("in", "a"), ("out",)]), (parse_log, "", []),
                                   (parse_sides, "LR", ["L", "R"]), (parse_sides, "", [])):
            first, second = parse(text), parse(text)
            self.assertIsNot(first, second)
            first.append("changed")
            self.assertEqual((second, parse(text)), (value, value))

    def test_parsed_values_may_be_passed_on(self):
        log, sides = parse_log("+a +b +c - +d"), parse_sides("RRRRL")
        self.assertEqual(replay(parse_lane(""), log, sides), (("d", "a", "b"), ["c"]))
        self.assertEqual(format_lane(replay((), log, sides)[0]), "d a b")

    def test_the_functions_stand_in_their_file(self):
        for form, parse, _ in KINDS:
            for function in (form, parse):
                self.assertEqual(function.__module__, "openlane.texts")
                self.assertIs(getattr(texts, function.__name__), function)


if __name__ == "__main__":
    unittest.main()
