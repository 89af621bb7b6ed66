"""[23], [24]: which histories agree with the lanes that were seen."""

import random
import unittest
from itertools import combinations, product

from openlane.errors import InvalidLane, InvalidLog, InvalidSightings
from openlane.histories import count_histories, history
from openlane.logs import replay
from openlane.sightings import count_agreeing, first_conflict, seen_history
from tests import brute
from tests.cases import build_log, large_cases, quickly, random_sides
from tests.test_logs import WRONG_TEXTS, Hostile, wrong_values
from tests.test_stayers import START_40, random_log

FUNCTIONS = (first_conflict, count_agreeing, seen_history)
THREE_IN = [("in", "a"), ("in", "b"), ("in", "c"), ("out",)]
SEEN = [(2, ("b", "a")), (4, ("a", "c"))]


def lanes_of(start, log, sides):
    """The lane at each moment of one history."""
    found = [start]
    for event, side in zip(log, sides):
        found.append(brute.step(found[-1], event, side)[0])
    return found


def all_lanes(start, log):
    """For each history the lane at each moment."""
    return [lanes_of(start, log, sides) for sides in product("LR", repeat=len(log))]


def parts_of(start, log, sightings):
    """Each part between two sightings: the lane before, the events and the lane after."""
    seen = [(0, start)] + sightings
    return [(one[1], log[one[0]:two[0]], two[1]) for one, two in zip(seen, seen[1:])]


class TestExamples(unittest.TestCase):

    def test_first_conflict(self):
        self.assertIsNone(first_conflict((), THREE_IN, SEEN))
        self.assertEqual(first_conflict((), THREE_IN, [(2, ("b", "a")), (4, ("c", "a"))]), 1)

    def test_count_agreeing(self):
        self.assertEqual(count_agreeing((), THREE_IN, SEEN), 2)

    def test_seen_history(self):
        self.assertEqual(seen_history((), THREE_IN, SEEN), ["L", "L", "R", "L"])


class TestOrdinaryCases(unittest.TestCase):

    def check(self, start, log, sightings, conflict, count, sides):
        found = [function(start, log, sightings) for function in FUNCTIONS]
        self.assertEqual(found, [conflict, count, sides], sightings)

    def test_no_sightings(self):
        self.check((), [], [], None, 1, [])
        self.check(("s", "t"), [], [], None, 1, [])
        self.check((), THREE_IN, [], None, 16, [])
        self.check(("s", "t"), [("out",), ("out",)], [], None, 4, [])

    def test_a_sighting_at_moment_0(self):
        self.check((), [], [(0, ())], None, 1, [])
        self.check(("s", "t"), THREE_IN, [(0, ("s", "t"))], None, 16, [])
        for lane in (("t", "s"), ("s",), ("t",), (), ("s", "t", "u"), ("s", "u"), ("a", "t"), ("x", "y")):
            self.check(("s", "t"), THREE_IN, [(0, lane)], 0, 0, None)
        self.check((), THREE_IN, [(0, ("a",))], 0, 0, None)

    def test_a_sighting_at_the_last_moment(self):
        self.check((), THREE_IN, [(4, ("b", "c"))], None, 2, ["L", "R", "R", "L"])
        self.check((), THREE_IN, [(4, ("c", "b"))], None, 2, ["R", "L", "L", "R"])
        self.check((), THREE_IN, [(4, ("a", "b"))], None, 4, ["R", "R", "R", "R"])
        self.check((), THREE_IN, [(4, ())], 0, 0, None)

    def test_a_sighting_at_every_moment(self):
        seen = [(0, ()), (1, ("a",)), (2, ("a", "b")), (3, ("c", "a", "b")), (4, ("c", "a"))]
        self.check((), THREE_IN, seen, None, 2, ["L", "R", "L", "R"])
        self.check((), THREE_IN, seen[:4], None, 4, ["L", "R", "L"])
        self.check((), THREE_IN, seen[:2] + [(2, ("b", "a"))] + seen[3:], 3, 0, None)
        self.check((), THREE_IN, [(0, ("b",))] + seen[1:], 0, 0, None)

    def test_events_after_the_last_sighting_have_two_sides(self):
        self.check((), THREE_IN, [(1, ("a",))], None, 16, ["L"])
        self.check((), THREE_IN, [(2, ("a", "b"))], None, 8, ["R", "R"])
        self.check(("s",), [("out",), ("in", "a")], [(1, ())], None, 4, ["L"])

    def test_an_empty_lane_was_seen(self):
        log = [("in", "a"), ("out",), ("in", "b")]
        self.check((), log, [(2, ()), (3, ("b",))], None, 8, ["R", "L", "L"])
        self.check((), log, [(2, ("a",))], 0, 0, None)

    def test_seen_lanes_that_cannot_be_are_conflicts(self):
        for lane in ((), ("a",), ("a", "b", "c"), ("x", "y"), ("a", "x"), ("a", "c"), ("in", "out")):
            self.check((), THREE_IN, [(2, lane)], 0, 0, None)
            self.check((), THREE_IN, [(1, ("a",)), (2, lane), (4, ("a", "b"))], 1, 0, None)

    def test_a_departed_car_is_not_there_again(self):
        log = [("in", "a"), ("in", "b"), ("out",), ("in", "c"), ("out",)]
        self.check((), log, [(3, ("a",)), (5, ("b",))], 1, 0, None)
        self.check((), log, [(3, ("b",)), (5, ("b",))], None, 8, ["R", "L", "R", "R", "R"])

    def test_the_first_conflict_of_several(self):
        seen = [(1, ("a",)), (2, ("b",)), (3, ("c",)), (4, ())]
        self.check((), THREE_IN, seen, 1, 0, None)
        self.check((), THREE_IN, seen[2:], 0, 0, None)
        # A car that arrives after it was seen makes the rest no log for that lane.
        self.check((), THREE_IN, [(2, ("c", "b")), (4, ("c", "b"))], 0, 0, None)
        self.check((), THREE_IN, [(1, ()), (4, ("a", "b"))], 0, 0, None)
        self.check(("s",), [("out",), ("out",)][:1], [(0, ()), (1, ())], 0, 0, None)

    def test_kinds_of_values(self):
        self.assertIs(type(first_conflict((), THREE_IN, [(1, ())])), int)
        for seen in (SEEN, [], [(1, ())]):
            self.assertIs(type(count_agreeing((), THREE_IN, seen)), int)
        for seen in (SEEN, [], [(0, ())]):
            self.assertIs(type(seen_history((), THREE_IN, seen)), list)


class TestAllHistories(unittest.TestCase):

    def check(self, start, log, histories, sightings):
        case = (start, log, sightings)
        agreeing = histories
        conflict = None
        for index, (moment, lane) in enumerate(sightings):
            agreeing = [lanes for lanes in agreeing if lanes[moment] == lane]
            if not agreeing and conflict is None:
                conflict = index
        self.assertEqual(first_conflict(start, log, sightings), conflict, case)
        self.assertEqual(count_agreeing(start, log, sightings), len(agreeing), case)
        sides = seen_history(start, log, sightings)
        if conflict is not None:
            self.assertIsNone(sides, case)
            return
        expected = []
        for before, events, lane in parts_of(start, log, sightings):
            expected += brute.rule_history(before, events, lane)
        self.assertEqual(sides, expected, case)
        length = sightings[-1][0] if sightings else 0
        self.assertEqual(len(sides), length, case)
        lanes = lanes_of(start, log[:length], sides)
        self.assertEqual([lanes[moment] for moment, _ in sightings], [lane for _, lane in sightings])

    def test_all_sightings_of_each_history(self):
        for start, log in brute.small_cases((4, 4, 3, 3, 2)):
            histories = all_lanes(start, log)
            seen = []
            for lanes in histories:
                for count in range(len(log) + 2):
                    for moments in combinations(range(len(log) + 1), count):
                        sightings = [(moment, lanes[moment]) for moment in moments]
                        if sightings not in seen:
                            seen.append(sightings)
            for sightings in seen:
                self.check(start, log, histories, sightings)

    def test_each_lane_at_one_moment(self):
        for start, log in brute.small_cases((4, 3, 3, 2)):
            histories = all_lanes(start, log)
            cars = brute.all_cars(start, log) + ["no"]
            for moment in range(len(log) + 1):
                self.check(start, log, histories, [(moment, ())])
                for one, two in product(cars, repeat=2):
                    lane = (one, two) if one != two else (one,)
                    self.check(start, log, histories, [(moment, lane)])

    def test_mixed_sightings(self):
        source = random.Random(24)
        conflicts = 0
        for _ in range(250):
            start = brute.START_NAMES[:source.randrange(6)]
            log = random_log(source, start, source.randrange(9), 6)
            histories = all_lanes(start, log)
            for _ in range(8):
                sightings = self.draw(source, start, log, histories)
                self.check(start, log, histories, sightings)
                conflicts += first_conflict(start, log, sightings) is not None
        self.assertTrue(400 < conflicts < 1600, conflicts)

    def draw(self, source, start, log, histories):
        """Sightings of a history, of which some are those of another one or wrong."""
        lanes = source.choice(histories)
        moments = sorted(source.sample(range(len(log) + 1), source.randrange(len(log) + 2)))
        sightings = []
        for moment in moments:
            lane = lanes[moment]
            if source.random() < 0.15:
                lane = source.choice(histories)[moment]
            if source.random() < 0.06:
                cars = brute.all_cars(start, log) + ["no"]
                lane = tuple(source.sample(cars, min(len(cars), max(0, len(lane) + source.randrange(-1, 2)))))
            sightings.append((moment, lane))
        return sightings


class TestLargeCases(unittest.TestCase):

    def check(self, start, log, sightings, conflict):
        self.assertEqual(quickly(self, first_conflict, start, log, sightings), conflict)
        count = quickly(self, count_agreeing, start, log, sightings)
        sides = quickly(self, seen_history, start, log, sightings)
        if conflict is not None:
            self.assertEqual((count, sides), (0, None))
            return
        expected = 2 ** (len(log) - sightings[-1][0] if sightings else len(log))
        found = []
        for before, events, lane in parts_of(start, log, sightings):
            expected *= count_histories(before, events, lane)
            found += history(before, events, lane)
        self.assertEqual(count, expected)
        self.assertEqual(sides, found)
        length = sightings[-1][0] if sightings else 0
        lanes = lanes_of(start, log[:length], sides)
        self.assertEqual([lanes[moment] for moment, _ in sightings], [lane for _, lane in sightings])

    def test_40_cars_and_120_events(self):
        source = random.Random(25)
        for start, log in large_cases():
            lanes = lanes_of(start, log, random_sides(source, log))
            for count in (0, 1, 2, 5, 20, len(log) + 1):
                moments = sorted(source.sample(range(len(log) + 1), count))
                self.check(start, log, [(moment, lanes[moment]) for moment in moments], None)

    def test_a_wrong_lane_among_many(self):
        source = random.Random(26)
        for start, log in large_cases():
            lanes = lanes_of(start, log, random_sides(source, log))
            sightings = [(moment, lane) for moment, lane in enumerate(lanes) if moment % 3 == 0]
            for index in source.sample(range(len(sightings)), 3):
                moment, lane = sightings[index]
                wrong = list(sightings)
                wrong[index] = (moment, lane[:-1] if lane else ("no",))
                self.check(start, log, wrong, index)

    def test_known_counts(self):
        log = build_log("+-" * 60)
        self.check((), log, [], None)
        self.assertEqual(count_agreeing((), log, []), 2 ** 120)
        self.assertEqual(count_agreeing((), log, [(120, ())]), 2 ** 120)
        self.assertEqual(count_agreeing(("s",), log, [(120, ("s",))]), 2 ** 60)
        seen = [(moment, ("s",)) for moment in range(0, 121, 2)]
        self.assertEqual(count_agreeing(("s",), log, seen), 2 ** 60)
        self.assertEqual(seen_history(("s",), log, seen), ["R"] * 120)
        self.assertEqual(count_agreeing(START_40, [("out",)] * 40, [(39, START_40[:1])]), 2)


class TestErrors(unittest.TestCase):

    def test_start(self):
        for function in FUNCTIONS:
            for start in wrong_values() + [["a"], ("a", "a")]:
                for log, seen in (([], []), (None, None), ([("out",)], [(0, ())]), ([], [(1, ())]), ([], ())):
                    with self.assertRaises(InvalidLane):
                        function(start, log, seen)

    def test_log(self):
        for function in FUNCTIONS:
            for log in wrong_values() + [(), [("in", "s")], [("out",), ("out",)]]:
                for seen in ([], None, [(0, ("s",))], [(0, ["s"])], [(-1, ())], ()):
                    with self.assertRaises(InvalidLog):
                        function(("s",), log, seen)

    def test_no_list(self):
        for function in FUNCTIONS:
            for seen in wrong_values() + [(), (0, ()), ((0, ()),), ((0, ("s",)),), {0: ("s",)}, iter([(0, ("s",))])]:
                with self.assertRaises(InvalidSightings):
                    function(("s",), [("in", "a")], seen)

    def test_wrong_entries(self):
        entries = [
            (), (0,), (0, ("s",), ()), [0, ("s",)], {0: ("s",)}, "ab", ("s",), 0, None, True, (("s",), 0),
            ("0", ("s",)), (None, ("s",)), (0.0, ("s",)), (b"0", ("s",)), ((0,), ("s",)), ([0], ("s",)),
            (False, ("s",)), (True, ("s", "a")), (Hostile(), ("s",)), (0, Hostile()), Hostile(),
            (0, ["s"]), (0, "s"), (0, None), (0, ("s", "s")), (0, ("S",)), (0, ("abcde",)), (0, ("",)),
            (0, ("s", None)), (0, {"s": 0}), (0, {"s"}), (0, (("s",),)),
        ]
        entries += [(0, (text,)) for text in WRONG_TEXTS]
        log = [("in", "a"), ("in", "b")]
        for function in FUNCTIONS:
            for entry in entries:
                for seen in ([entry], [entry, (2, ("s", "a", "b"))]):
                    with self.assertRaises(InvalidSightings):
                        function(("s",), log, seen)
            for entry in entries[:16]:
                with self.assertRaises(InvalidSightings):
                    function(("s",), log, [(0, ("s",)), entry])

    def test_wrong_moments(self):
        log = [("in", "a"), ("out",)]
        for function in FUNCTIONS:
            for moment in (-1, 3, 4, -2, 10 ** 29, -10 ** 29, 2 ** 64):
                for seen in ([(moment, ("s",))], [(0, ("s",)), (moment, ("s",))], [(0, ("x",)), (moment, ())]):
                    with self.assertRaises(InvalidSightings):
                        function(("s",), log, seen)
            with self.assertRaises(InvalidSightings):
                function((), [], [(1, ())])

    def test_moments_ascend(self):
        log = [("in", "a"), ("out",)]
        for function in FUNCTIONS:
            for moments in ((0, 0), (1, 1), (2, 2), (1, 0), (2, 1), (0, 2, 1), (0, 1, 1), (1, 2, 0)):
                with self.assertRaises(InvalidSightings):
                    function((), log, [(moment, ("a",) if moment == 1 else ()) for moment in moments])

    def test_errors_are_before_conflicts(self):
        log = [("in", "a"), ("out",)]
        for function in FUNCTIONS:
            for seen in ([(0, ("x",)), (1, ["a"])], [(0, ("x",)), (0, ())], [(1, ("x",)), (2, ("s", "s"))],
                         [(2, ("x",)), (3, ())], [(1, ()), None]):
                with self.assertRaises(InvalidSightings):
                    function(("s",), log, seen)


class TestConventions(unittest.TestCase):

    def test_changed_sightings_are_answered_anew(self):
        seen = list(SEEN)
        self.assertEqual([function((), THREE_IN, seen) for function in FUNCTIONS], [None, 2, ["L", "L", "R", "L"]])
        seen[1] = (4, ("c", "a"))
        self.assertEqual([function((), THREE_IN, seen) for function in FUNCTIONS], [1, 0, None])
        seen.pop()
        self.assertEqual([function((), THREE_IN, seen) for function in FUNCTIONS], [None, 8, ["L", "L"]])
        seen.clear()
        self.assertEqual([function((), THREE_IN, seen) for function in FUNCTIONS], [None, 16, []])
        seen.append((4, ["a"]))
        for function in FUNCTIONS:
            with self.assertRaises(InvalidSightings):
                function((), THREE_IN, seen)

    def test_results_stay_when_sightings_change(self):
        seen, log = list(SEEN), list(THREE_IN)
        found = seen_history((), log, seen)
        seen.clear()
        log.clear()
        self.assertEqual(found, ["L", "L", "R", "L"])

    def test_empty_results_are_new(self):
        first = seen_history((), THREE_IN, [])
        first.append("changed")
        self.assertEqual(seen_history((), THREE_IN, []), [])

    def test_the_result_may_be_replayed(self):
        sides = seen_history((), THREE_IN, SEEN)
        self.assertEqual(replay((), THREE_IN, sides)[0], ("a", "c"))


if __name__ == "__main__":
    unittest.main()
