"""[25], [26]: a log that grows, with sightings in between."""

import inspect
import random
import unittest
from itertools import permutations

from openlane import yard as yard_module
from openlane.counting import count_lanes, nth_lane
from openlane.errors import (
    EmptyLane, InvalidCar, InvalidIndex, InvalidLane, LaneError, NotPossible, NothingToUndo, UsedCar)
from openlane.lanes import is_possible
from openlane.logs import is_log, numbers, replay, sizes
from openlane.yard import Yard
from tests import brute
from tests.cases import build_log, large_cases, quickly, random_sides
from tests.test_logs import RIGHT_CARS, WRONG_TEXTS, Hostile, wrong_values
from tests.test_stayers import START_40

METHODS = {
    "arrive": ("car",), "depart": (), "see": ("lane",), "undo": (), "size": (), "events": (),
    "is_possible": ("lane",), "count_lanes": (), "nth_lane": ("index",), "known": (),
}
WRONG_INDEXES = (None, True, False, -1, "0", 0.0, (0,), [0], b"0", 10 ** 29, -10 ** 29)


def state(yard):
    """All that a yard tells without being changed."""
    count = yard.count_lanes()
    lanes = [yard.nth_lane(index) for index in range(min(count, 30))]
    return yard.size(), yard.events(), yard.known(), count, lanes


def filled(start, log):
    """A yard with these events."""
    yard = Yard(start)
    for event in log:
        if event[0] == "in":
            yard.arrive(event[1])
        else:
            yard.depart()
    return yard


class TestExamples(unittest.TestCase):

    def test_yard(self):
        yard = Yard()
        self.assertIsNone(yard.arrive("a"))
        self.assertIsNone(yard.arrive("b"))
        self.assertIsNone(yard.depart())
        self.assertEqual(yard.count_lanes(), 2)
        self.assertIsNone(yard.see(("b",)))
        self.assertEqual(yard.known(), ("b",))


class TestOrdinaryCases(unittest.TestCase):

    def test_a_new_yard(self):
        for yard, lane in ((Yard(), ()), (Yard(()), ()), (Yard(("b", "a")), ("b", "a"))):
            self.assertEqual(state(yard), (len(lane), [], lane, 1, [lane]))
            self.assertIs(yard.is_possible(lane), True)
            self.assertIs(yard.is_possible(("a",)), False)

    def test_events_and_size(self):
        yard = Yard(("s",))
        yard.arrive("a")
        self.assertEqual((yard.size(), yard.events()), (2, [("in", "a")]))
        yard.depart()
        yard.depart()
        self.assertEqual((yard.size(), yard.events()), (0, [("in", "a"), ("out",), ("out",)]))
        yard.arrive("b")
        self.assertEqual((yard.size(), yard.known()), (1, ("b",)))

    def test_see_does_not_change_the_events(self):
        yard = filled((), [("in", "a"), ("in", "b")])
        for lane in (("b", "a"), ("b", "a")):
            yard.see(lane)
            self.assertEqual(yard.events(), [("in", "a"), ("in", "b")])
            self.assertEqual(yard.size(), 2)
            self.assertEqual(yard.count_lanes(), 1)
        self.assertIs(yard.is_possible(("a", "b")), False)

    def test_a_sighting_is_the_new_beginning(self):
        yard = filled(("p", "q"), [("in", "a")])
        self.assertEqual(yard.count_lanes(), 2)
        yard.see(("a", "p", "q"))
        yard.depart()
        self.assertEqual([yard.nth_lane(index) for index in range(2)], [("a", "p"), ("p", "q")])
        self.assertEqual(yard.known(), ("p",))
        self.assertIs(yard.is_possible(("p", "a")), False)
        with self.assertRaises(InvalidIndex):
            yard.nth_lane(2)

    def test_the_order_of_the_lanes_uses_the_numbers_since_the_sighting(self):
        yard = filled((), [("in", "a"), ("in", "b"), ("in", "c")])
        yard.see(("c", "b", "a"))
        yard.arrive("d")
        yard.depart()
        lanes = [yard.nth_lane(index) for index in range(yard.count_lanes())]
        self.assertEqual(lanes, [("c", "b", "a"), ("d", "c", "b"), ("b", "a", "d")])
        # By the numbers of the whole log, the set of the last lane would be before that of the second.
        self.assertEqual(numbers((), yard.events()), ["a", "b", "c", "d"])

    def test_known_uses_the_numbers_of_the_whole_log(self):
        yard = filled((), [("in", "z"), ("in", "a"), ("in", "m")])
        self.assertEqual(yard.known(), ("z", "a", "m"))
        yard.see(("m", "z", "a"))
        self.assertEqual(yard.known(), ("z", "a", "m"))
        yard.arrive("k")
        self.assertEqual(yard.known(), ("z", "a", "m", "k"))
        yard.depart()
        self.assertEqual(yard.known(), ("z",))
        yard.arrive("b")
        self.assertEqual(yard.known(), ("z", "b"))
        yard.depart()
        self.assertEqual(yard.known(), ())

    def test_known_cars_of_a_long_lane(self):
        yard = Yard(("d", "c", "b", "a", "e"))
        known = [yard.known()]
        for _ in range(5):
            yard.depart()
            known.append(yard.known())
        self.assertEqual(known, [("d", "c", "b", "a", "e"), ("c", "b", "a"), ("b",), (), (), ()])

    def test_undo(self):
        yard = Yard(("s",))
        yard.arrive("a")
        yard.see(("a", "s"))
        yard.depart()
        self.assertEqual(yard.undo(), "depart")
        self.assertEqual(state(yard), (2, [("in", "a")], ("s", "a"), 1, [("a", "s")]))
        self.assertEqual(yard.undo(), "see")
        self.assertEqual(state(yard), (2, [("in", "a")], ("s", "a"), 2, [("a", "s"), ("s", "a")]))
        self.assertEqual(yard.undo(), "arrive")
        self.assertEqual(state(yard), (1, [], ("s",), 1, [("s",)]))
        with self.assertRaises(NothingToUndo):
            yard.undo()

    def test_a_car_may_arrive_again_after_undo(self):
        yard = filled((), [("in", "a"), ("out",)])
        with self.assertRaises(UsedCar):
            yard.arrive("a")
        yard.undo()
        with self.assertRaises(UsedCar):
            yard.arrive("a")
        yard.undo()
        yard.arrive("b")
        yard.arrive("a")
        self.assertEqual(yard.events(), [("in", "b"), ("in", "a")])
        self.assertEqual(yard.known(), ("b", "a"))

    def test_undo_restores_the_sighting_before(self):
        yard = filled((), [("in", "a"), ("in", "b")])
        yard.see(("a", "b"))
        yard.arrive("c")
        yard.see(("c", "a", "b"))
        self.assertEqual(yard.count_lanes(), 1)
        self.assertEqual(yard.undo(), "see")
        self.assertEqual(yard.count_lanes(), 2)
        self.assertIs(yard.is_possible(("a", "b", "c")), True)
        self.assertIs(yard.is_possible(("b", "a", "c")), False)
        yard.see(("a", "b", "c"))
        self.assertEqual([yard.undo() for _ in range(3)], ["see", "arrive", "see"])
        self.assertEqual(yard.count_lanes(), 2)
        self.assertIs(yard.is_possible(("b", "a")), True)

    def test_two_sightings_at_one_moment(self):
        yard = filled((), [("in", "a"), ("in", "b")])
        yard.see(("a", "b"))
        with self.assertRaises(NotPossible):
            yard.see(("b", "a"))
        yard.see(("a", "b"))
        self.assertEqual(yard.undo(), "see")
        self.assertEqual(yard.count_lanes(), 1)
        self.assertEqual(yard.undo(), "see")
        self.assertEqual(yard.count_lanes(), 2)
        yard.see(("b", "a"))
        self.assertEqual(yard.nth_lane(0), ("b", "a"))

    def test_see_at_the_beginning_and_of_an_empty_lane(self):
        yard = Yard(("s",))
        yard.see(("s",))
        yard.depart()
        yard.see(())
        yard.arrive("a")
        self.assertEqual(state(yard), (1, [("out",), ("in", "a")], ("a",), 1, [("a",)]))
        self.assertEqual([yard.undo() for _ in range(4)], ["arrive", "see", "depart", "see"])
        with self.assertRaises(NothingToUndo):
            yard.undo()

    def test_two_yards_are_independent(self):
        one, two, three = Yard(), Yard(), Yard(("s",))
        one.arrive("a")
        one.see(("a",))
        three.depart()
        self.assertEqual(state(two), (0, [], (), 1, [()]))
        two.arrive("a")
        one.depart()
        self.assertEqual(state(two), (1, [("in", "a")], ("a",), 1, [("a",)]))
        self.assertEqual(three.events(), [("out",)])
        self.assertEqual(Yard().events(), [])
        self.assertEqual(two.undo(), "arrive")
        with self.assertRaises(NothingToUndo):
            two.undo()
        self.assertEqual([one.undo() for _ in range(3)], ["depart", "see", "arrive"])

    def test_kinds_of_values(self):
        yard = filled(("s",), [("in", "a"), ("out",)])
        self.assertIs(type(yard.size()), int)
        self.assertIs(type(yard.count_lanes()), int)
        self.assertIs(type(yard.events()), list)
        self.assertIs(type(yard.known()), tuple)
        self.assertIs(type(yard.nth_lane(0)), tuple)
        self.assertIs(yard.is_possible(("a",)), True)
        self.assertIs(yard.is_possible(("x",)), False)
        self.assertIs(type(yard.undo()), str)


class Plain:
    """What a yard should tell, from all histories since the latest sighting."""

    def __init__(self, start):
        self.start = start
        self.log = []
        self.seen = [(0, start)]

    def part(self):
        moment, lane = self.seen[-1]
        return lane, self.log[moment:]

    def lanes(self):
        start, log = self.part()
        found = brute.final_lanes(start, log)
        return sorted(found, key=lambda lane: brute.sort_key(start, log, lane))

    def size(self):
        return brute.size_at(self.start, self.log, len(self.log))

    def known(self):
        common = set.intersection(*[set(lane) for lane in self.lanes()])
        return tuple(car for car in brute.all_cars(self.start, self.log) if car in common)


class TestAllHistories(unittest.TestCase):

    def compare(self, yard, plain):
        lanes = plain.lanes()
        self.assertEqual(yard.size(), plain.size())
        self.assertEqual(yard.events(), plain.log)
        self.assertEqual(yard.count_lanes(), len(lanes))
        self.assertEqual([yard.nth_lane(index) for index in range(len(lanes))], lanes)
        self.assertEqual(yard.known(), plain.known(), (plain.start, plain.log, plain.seen))
        cars = brute.all_cars(*plain.part())
        if plain.size() <= 3 and len(cars) <= 6:
            for lane in permutations(cars, plain.size()):
                self.assertIs(yard.is_possible(lane), lane in lanes)
        for lane in lanes[:20]:
            self.assertIs(yard.is_possible(lane), True)
            for wrong in (lane[:-1] + ("no",), lane + ("no",), lane[1:] + ("zzzz",)):
                self.assertIs(yard.is_possible(wrong), False)

    def refuse(self, source, yard, plain):
        """Calls that raise an error, after which the yard is as before."""
        before = state(yard)
        lanes = plain.lanes()
        used = brute.all_cars(plain.start, plain.log)
        calls = [
            (InvalidCar, yard.arrive, source.choice(WRONG_TEXTS)), (InvalidCar, yard.arrive, None),
            (InvalidLane, yard.see, ["a"]), (InvalidLane, yard.see, ("a", "a")),
            (NotPossible, yard.see, lanes[0] + ("no",)), (InvalidLane, yard.is_possible, None),
            (InvalidIndex, yard.nth_lane, len(lanes)), (InvalidIndex, yard.nth_lane, -1),
        ]
        calls += [(UsedCar, yard.arrive, car) for car in used[:1] + used[-1:]]
        cars = brute.all_cars(*plain.part())
        others = [lane for lane in permutations(cars, plain.size()) if lane not in lanes] if len(cars) < 7 else []
        if others:
            calls.append((NotPossible, yard.see, source.choice(others)))
        for error, call, value in calls:
            with self.assertRaises(error):
                call(value)
        if plain.size() == 0:
            with self.assertRaises(EmptyLane):
                yard.depart()
        self.assertEqual(state(yard), before)

    def act(self, source, yard, plain, names):
        """One random action of both; the name of what was done."""
        choices = ["arrive"] * (plain.size() < 6) + ["depart"] * (plain.size() > 0) + ["see"]
        if len(plain.part()[1]) > 6:
            choices = ["see"]
        action = source.choice(choices)
        if action == "arrive":
            car = next(names)
            yard.arrive(car)
            plain.log.append(("in", car))
        elif action == "depart":
            yard.depart()
            plain.log.append(("out",))
        else:
            lane = source.choice(plain.lanes())
            yard.see(lane)
            plain.seen.append((len(plain.log), lane))
        return action

    def undo(self, yard, plain, action):
        self.assertEqual(yard.undo(), action)
        (plain.seen if action == "see" else plain.log).pop()

    def test_random_actions(self):
        for seed in range(8):
            source = random.Random(seed)
            start = brute.START_NAMES[:source.randrange(6)]
            yard, plain = Yard(start), Plain(start)
            # Names in no order, so that neither the names nor the lanes are in that of the numbers.
            names = iter(source.sample(["n" + one + two for one in "abcdefgh" for two in "stuvwxyz"], 64))
            done = []
            for _ in range(60):
                done.append(self.act(source, yard, plain, names))
                if source.random() < 0.2:
                    for _ in range(min(len(done), source.randrange(1, 4))):
                        self.undo(yard, plain, done.pop())
                self.compare(yard, plain)
                if source.random() < 0.3:
                    self.refuse(source, yard, plain)
            while done:
                self.undo(yard, plain, done.pop())
                self.compare(yard, plain)
            with self.assertRaises(NothingToUndo):
                yard.undo()
            self.assertEqual(state(yard), state(Yard(start)))

    def test_undone_actions_leave_the_state_before(self):
        source = random.Random(28)
        yard, plain = Yard(("p", "q")), Plain(("p", "q"))
        names = iter(["n" + letter for letter in "zyxwvutsrqponmlkjihgfedcba"] + ["m" + letter for letter in "abcdefghij"])
        states, done = [state(yard)], []
        for _ in range(40):
            done.append(self.act(source, yard, plain, names))
            states.append(state(yard))
        self.assertEqual(set(done), {"arrive", "depart", "see"})
        while done:
            self.assertEqual(state(yard), states.pop())
            self.assertEqual(yard.undo(), done.pop())
        self.assertEqual(state(yard), states.pop())

    def test_cars_of_undone_arrivals_may_arrive_again(self):
        source = random.Random(29)
        yard, plain = Yard(), Plain(())
        done = []
        for _ in range(120):
            free = [car for car in "abcdefg" if car not in brute.all_cars((), plain.log)]
            if done and (not free or source.random() < 0.45):
                self.undo(yard, plain, done.pop())
            else:
                done.append(self.act(source, yard, plain, iter(source.sample(free, len(free)))))
            self.compare(yard, plain)

    def test_known_cars_of_all_small_logs(self):
        for start, log in brute.small_cases((7, 6, 6, 5, 5, 4, 4)):
            plain = Plain(start)
            plain.log = log
            self.assertEqual(filled(start, log).known(), plain.known(), (start, log))


class TestLargeCases(unittest.TestCase):

    def test_40_cars_and_120_events(self):
        source = random.Random(30)
        for start, log in large_cases()[::3]:
            yard = quickly(self, filled, start, log)
            self.check(source, yard, start, log)
            lane = replay(start, log, random_sides(source, log))[0]
            quickly(self, yard.see, lane)
            self.assertEqual(yard.count_lanes(), 1)
            self.assertEqual(set(quickly(self, yard.known)), set(lane))
            self.assertEqual(quickly(self, yard.undo), "see")
            self.assertEqual(yard.count_lanes(), count_lanes(start, log))

    def check(self, source, yard, start, log):
        count = quickly(self, yard.count_lanes)
        self.assertEqual(count, count_lanes(start, log))
        self.assertEqual(quickly(self, yard.size), sizes(start, log)[-1])
        self.assertEqual(quickly(self, yard.events), log)
        index = source.randrange(count)
        lane = quickly(self, yard.nth_lane, index)
        self.assertEqual(lane, nth_lane(start, log, index))
        self.assertIs(quickly(self, yard.is_possible, lane), True)
        known = quickly(self, yard.known)
        self.assertEqual(list(known), [car for car in numbers(start, log) if car in known])
        self.assertTrue(set(known) <= set(lane))
        for _ in range(5):
            self.assertTrue(set(known) <= set(replay(start, log, random_sides(source, log))[0]))

    def test_many_sightings(self):
        source = random.Random(31)
        for start, log in large_cases()[::4]:
            yard, lane = Yard(start), start
            done = []
            for event, side in zip(log, random_sides(source, log)):
                lane = brute.step(lane, event, side)[0]
                if event[0] == "in":
                    yard.arrive(event[1])
                    done.append("arrive")
                else:
                    yard.depart()
                    done.append("depart")
                if source.random() < 0.3:
                    quickly(self, yard.see, lane)
                    done.append("see")
            self.assertIs(quickly(self, yard.is_possible, lane), True)
            self.assertEqual(yard.events(), log)
            while done:
                self.assertEqual(quickly(self, yard.undo), done.pop())
            self.assertEqual(state(yard), state(Yard(start)))

    def test_known_answers(self):
        yard = Yard(START_40)
        for _ in range(19):
            yard.depart()
        self.assertEqual(quickly(self, yard.known), START_40[19:21])
        self.assertEqual(quickly(self, yard.count_lanes), 20)
        yard.see(START_40[:21])
        yard.arrive("a")
        yard.depart()
        self.assertEqual(quickly(self, yard.known), START_40[1:20])
        yard = filled((), build_log("+" * 40))
        self.assertEqual(quickly(self, yard.count_lanes), 2 ** 39)


class TestErrors(unittest.TestCase):

    def unchanged(self, yard, error, call, values):
        before = state(yard)
        for value in values:
            with self.assertRaises(error) as caught:
                call(value)
            self.assertIs(type(caught.exception), error)
        self.assertEqual(state(yard), before)

    def yards(self):
        """Yards before any event, with events, and with sightings."""
        seen = filled(("s",), [("in", "a"), ("in", "b"), ("out",)])
        seen.see(("s", "b"))
        later = filled(("s",), [("in", "a"), ("in", "b"), ("out",)])
        later.see(("a", "s"))
        later.arrive("c")
        return [Yard(), Yard(("s", "t")), filled(("s",), [("in", "a"), ("out",)]), seen, later]

    def test_start(self):
        for start in wrong_values() + [["a"], [], ("a", "a"), ("A",), ("abcde",), "ab", {"a": 1}, {"a"}]:
            with self.assertRaises(InvalidLane):
                Yard(start)
        for text in WRONG_TEXTS:
            with self.assertRaises(InvalidLane):
                Yard(("s", text))

    def test_arrive(self):
        wrong = [value for value in wrong_values() if not isinstance(value, str) or value in ("", "L")]
        for yard in self.yards():
            self.unchanged(yard, InvalidCar, yard.arrive, wrong + list(WRONG_TEXTS))
            self.unchanged(yard, InvalidCar, yard.arrive, [("s",), ["s"], b"s", "abcde", Hostile(), ("in", "s")])
        for car in RIGHT_CARS + ("in", "out"):
            yard = Yard()
            yard.arrive(car)
            self.assertEqual(yard.events(), [("in", car)])

    def test_used_cars(self):
        yard = filled(("s", "t"), [("out",), ("out",), ("in", "a"), ("in", "b"), ("out",)])
        self.unchanged(yard, UsedCar, yard.arrive, ["s", "t", "a", "b"])
        yard.see(("b",))
        self.unchanged(yard, UsedCar, yard.arrive, ["s", "t", "a", "b"])
        yard.arrive("c")
        self.unchanged(yard, UsedCar, yard.arrive, ["s", "t", "a", "b", "c"])
        self.unchanged(yard, InvalidCar, yard.arrive, ["S", "s "])

    def test_depart(self):
        emptied = filled(("s",), [("in", "a"), ("out",), ("out",)])
        for yard in (Yard(), emptied):
            self.unchanged(yard, EmptyLane, lambda _, yard=yard: yard.depart(), [None])
        emptied.see(())
        self.unchanged(emptied, EmptyLane, lambda _: emptied.depart(), [None])
        emptied.arrive("b")
        emptied.depart()
        self.assertEqual(emptied.size(), 0)

    def test_lanes(self):
        wrong = wrong_values() + [["s"], [], ("s", "s"), ("S",), ("abcde",), "s", ("s", None), ("x", "x")]
        for yard in self.yards():
            self.unchanged(yard, InvalidLane, yard.see, wrong + [(text,) for text in WRONG_TEXTS])
            self.unchanged(yard, InvalidLane, yard.is_possible, wrong + [(text,) for text in WRONG_TEXTS])

    def test_see_what_is_not_possible(self):
        for yard in self.yards():
            self.unchanged(yard, NotPossible, yard.see, [("x",), ("x", "y"), ("b", "a", "s", "t", "x"), ("s", "x")])
        yard = filled((), [("in", "a"), ("in", "b"), ("in", "c"), ("out",)])
        self.unchanged(yard, NotPossible, yard.see, [(), ("a",), ("a", "x"), ("a", "b", "c"), ("a", "c", "b")])
        yard.see(("a", "b"))
        self.unchanged(yard, NotPossible, yard.see, [("b", "a"), ("a", "c"), ("b", "c"), (), ("a",)])

    def test_impossible_lanes_are_no_error_of_is_possible(self):
        for yard in self.yards():
            before = state(yard)
            for lane in (("x",), ("x", "y"), ("b", "a", "s", "t", "x"), ("s", "x")):
                self.assertIs(yard.is_possible(lane), False)
            self.assertEqual(state(yard), before)

    def test_undo(self):
        for yard in (Yard(), Yard(("s",)), filled(("s",), [])):
            self.unchanged(yard, NothingToUndo, lambda _, yard=yard: yard.undo(), [None, None])
        yard = filled(("s",), [("out",)])
        yard.undo()
        self.unchanged(yard, NothingToUndo, lambda _: yard.undo(), [None])
        yard.depart()
        self.assertEqual(yard.undo(), "depart")

    def test_nth_lane(self):
        for yard in self.yards():
            count = yard.count_lanes()
            self.unchanged(yard, InvalidIndex, yard.nth_lane, WRONG_INDEXES + (count, count + 1, Hostile()))

    def test_failed_actions_are_not_undone(self):
        yard = filled(("s",), [("in", "a")])
        for call, value in ((yard.arrive, "s"), (yard.arrive, "S"), (yard.see, ("x",)), (yard.see, None)):
            with self.assertRaises(LaneError):
                call(value)
        self.assertEqual(yard.undo(), "arrive")
        with self.assertRaises(NothingToUndo):
            yard.undo()


class TestConventions(unittest.TestCase):

    def test_the_class_defines_its_methods(self):
        self.assertIs(yard_module.Yard, Yard)
        self.assertEqual(Yard.__module__, "openlane.yard")
        self.assertEqual(tuple(inspect.signature(Yard).parameters), ("start",))
        self.assertEqual(inspect.signature(Yard).parameters["start"].default, ())
        for name, parameters in METHODS.items():
            self.assertIn(name, vars(Yard))
            self.assertEqual(tuple(inspect.signature(vars(Yard)[name]).parameters), ("self",) + parameters)

    def test_arguments_by_name(self):
        yard = Yard(start=("s",))
        yard.arrive(car="a")
        self.assertIs(yard.is_possible(lane=("s", "a")), True)
        self.assertEqual(yard.nth_lane(index=1), ("s", "a"))
        yard.see(lane=("s", "a"))
        self.assertEqual(yard.nth_lane(index=0), ("s", "a"))
        self.assertEqual([yard.undo(), yard.undo()], ["see", "arrive"])

    def test_events_is_a_new_list(self):
        yard = filled(("s",), [("in", "a"), ("out",)])
        first = yard.events()
        self.assertIsNot(first, yard.events())
        first.append(("in", "b"))
        first[0] = ("in", "c")
        self.assertEqual(yard.events(), [("in", "a"), ("out",)])
        self.assertEqual(yard.size(), 1)
        yard.arrive("b")
        yard.arrive("c")
        self.assertEqual(yard.events(), [("in", "a"), ("out",), ("in", "b"), ("in", "c")])
        first.clear()
        self.assertEqual(yard.size(), 3)
        Yard().events().append(("in", "a"))
        self.assertEqual(Yard().events(), [])

    def test_events_do_not_grow_later(self):
        yard = filled((), [("in", "a")])
        kept = yard.events()
        yard.depart()
        self.assertEqual(kept, [("in", "a")])
        yard.undo()
        yard.undo()
        self.assertEqual(kept, [("in", "a")])

    def test_answers_do_not_change_the_yard(self):
        yard = filled(("s", "t"), [("in", "a"), ("out",), ("in", "b")])
        before = state(yard)
        for _ in range(3):
            yard.is_possible(yard.nth_lane(0))
            self.assertEqual(state(yard), before)

    def test_the_answers_of_the_functions(self):
        yard = filled(("s", "t"), [("in", "a"), ("out",), ("in", "b")])
        log = yard.events()
        self.assertIs(is_log(("s", "t"), log), True)
        self.assertEqual(yard.count_lanes(), count_lanes(("s", "t"), log))
        for index in range(yard.count_lanes()):
            lane = yard.nth_lane(index)
            self.assertEqual(lane, nth_lane(("s", "t"), log, index))
            self.assertIs(is_possible(("s", "t"), log, lane), True)


if __name__ == "__main__":
    unittest.main()
