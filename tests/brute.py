"""Slow and plain answers for small lanes and logs, independent of the package."""

from functools import lru_cache
from itertools import combinations, permutations, product
from math import perm
from random import Random

START_NAMES = ("m", "c", "tt", "k", "ab", "z")
ARRIVING_NAMES = ("y", "aa", "p", "b", "x", "d", "q", "w", "e", "u", "f", "v")

FIVE_EVENTS = [("in", "a"), ("in", "b"), ("in", "c"), ("out",), ("in", "d")]


def logs_for(start, length):
    """All logs of this length for start, apart from the names of arriving cars."""
    found = []
    for words in product(("in", "out"), repeat=length):
        log = []
        present = len(start)
        names = iter(ARRIVING_NAMES)
        for word in words:
            present += 1 if word == "in" else -1
            if present < 0:
                break
            log.append(("in", next(names)) if word == "in" else ("out",))
        else:
            found.append(log)
    return found


def small_cases(limits):
    """Pairs (start, log): limits[n] is the length of the longest logs for n cars."""
    for cars, longest in enumerate(limits):
        start = START_NAMES[:cars]
        for length in range(longest + 1):
            for log in logs_for(start, length):
                yield start, log


def step(lane, event, side):
    """The lane after the event, and the departed car or None."""
    if event[0] == "in":
        return ((event[1],) + lane if side == "L" else lane + (event[1],)), None
    if side == "L":
        return lane[1:], lane[0]
    return lane[:-1], lane[-1]


def run(start, log, sides):
    """The final lane and the departed cars of one history."""
    lane = start
    gone = []
    for event, side in zip(log, sides):
        lane, car = step(lane, event, side)
        if car is not None:
            gone.append(car)
    return lane, gone


def final_lanes(start, log):
    """The set of the final lanes of all histories."""
    lanes = {start}
    for event in log:
        lanes = {step(lane, event, side)[0] for lane in lanes for side in "LR"}
    return lanes


def all_cars(start, log):
    return list(start) + [event[1] for event in log if event[0] == "in"]


def final_sets(start, log):
    """The sets of the cars of the final lanes."""
    return {frozenset(lane) for lane in final_lanes(start, log)}


def subsets(cars):
    for count in range(len(cars) + 1):
        yield from combinations(cars, count)


def size_at(start, log, moment):
    words = [event[0] for event in log[:moment]]
    return len(start) + words.count("in") - words.count("out")


def reason(start, log, cars):
    """The first reason against a set of cars, read off the document."""
    end = size_at(start, log, len(log))
    if len(cars) != end:
        return ("size", end)
    for moment in range(len(log) + 1):
        stay = set(all_cars(start, log[:moment])) & set(cars)
        if size_at(start, log, moment) < len(stay):
            return ("moment", moment)
    for place, car in enumerate(start):
        before = set(start[:place]) & set(cars)
        after = set(start[place + 1:]) & set(cars)
        if car not in cars and before and after:
            return ("block", car)
    left = right = 0
    while start[left] not in cars:
        left += 1
    while start[-1 - right] not in cars:
        right += 1
    arrivals = [index for index, event in enumerate(log) if event[0] == "in" and event[1] in cars]
    departures = log[:arrivals[0]].count(("out",))
    assert departures < min(left, right)
    return ("sides", left, right, departures)


def smallest_superset(start, log, sets, cars):
    """The smallest of the sets that contains the cars, as a tuple, or None."""
    order = all_cars(start, log)
    found = [sorted(order.index(car) for car in each) for each in sets if set(cars) <= each]
    return tuple(order[number] for number in min(found)) if found else None


def outcomes(start, log):
    """The final lanes of all histories, each with the list of its (sides, departed)."""
    found = {}
    for sides in product("LR", repeat=len(log)):
        lane, gone = run(start, log, sides)
        found.setdefault(lane, []).append((list(sides), gone))
    return found


@lru_cache(maxsize=None)
def small_outcomes(limits):
    """Triples (start, log, outcomes) for all small cases within the limits."""
    return [(start, log, outcomes(start, log)) for start, log in small_cases(limits)]


def lanes_of_size(start, log):
    """All lanes of known cars that have the right number of cars, or 800 if there are more."""
    cars = all_cars(start, log)
    size = size_at(start, log, len(log))
    if perm(len(cars), size) <= 800:
        return permutations(cars, size)
    source = Random(len(log))
    return [tuple(source.sample(cars, size)) for _ in range(800)]


def arrivals_of(log, lane):
    """The arriving cars of a lane with the moments after their arrival, in order."""
    return [(event[1], moment) for moment, event in enumerate(log, 1)
            if event[0] == "in" and event[1] in lane]


def side_of(start, log, lane, car):
    """The side of an arriving car, or None if it is the first stayer of all."""
    block = [place for place, other in enumerate(lane) if other in start]
    middle = block or [lane.index(arrivals_of(log, lane)[0][0])]
    place = lane.index(car)
    if place in middle:
        return None
    return "L" if place < middle[0] else "R"


def lane_reason(start, log, lane):
    """The first reason against a lane, read off the document, or None."""
    cars = all_cars(start, log)
    if len(lane) != size_at(start, log, len(log)) or set(lane) - set(cars):
        return ("cars",)
    block = tuple(car for car in lane if car in start)
    if not has_slice(start, block) or not has_slice(lane, block):
        return ("block",)
    for index in range(1, len(lane) - 1):
        if cars.index(lane[index]) > max(cars.index(lane[index - 1]), cars.index(lane[index + 1])):
            return ("order", index)
    for moment in range(len(log) + 1):
        if extra_at(start, log, lane, moment) < 0:
            return ("moment", moment)
    return switch_reason(start, log, lane, block)


def has_slice(lane, part):
    return any(lane[low:low + len(part)] == part for low in range(len(lane) + 1))


def extra_at(start, log, lane, moment):
    return size_at(start, log, moment) - len(set(all_cars(start, log[:moment])) & set(lane))


def switch_reason(start, log, lane, block):
    arrivals = arrivals_of(log, lane)
    for number, (car, moment) in enumerate(arrivals):
        side = side_of(start, log, lane, car)
        if number == 0:
            if block:
                left = start.index(block[0])
                right = len(start) - 1 - start.index(block[-1])
                if log[:moment].count(("out",)) < (left if side == "L" else right):
                    return ("switch", None, car)
            continue
        before, since = arrivals[number - 1]
        other = side_of(start, log, lane, before)
        if other is not None and other != side:
            if log[since:moment].count(("out",)) < extra_at(start, log, lane, since):
                return ("switch", before, car)
    return None


def rule_history(start, log, lane):
    """The history that the rule of the document gives for a possible lane."""
    present = start
    chosen = []
    for index, event in enumerate(log):
        later = [side_of(start, log, lane, car) for car, moment in arrivals_of(log, lane) if moment > index]
        if later[:1] == [None]:
            later = later[1:]
        side = later[0] if later else "L"
        other = "R" if side == "L" else "L"
        if event[0] == "in" and event[1] not in lane:
            side = other
        elif event[0] == "out" and step(present, event, side)[1] in lane:
            side = other
        chosen.append(side)
        present = step(present, event, side)[0]
    return chosen


def sort_key(start, log, lane):
    """What the document compares lanes by: the numbers of the set, then the word."""
    cars = all_cars(start, log)
    sides = [side_of(start, log, lane, car) for car, _ in arrivals_of(log, lane)]
    return sorted(cars.index(car) for car in lane), [side for side in sides if side is not None]
