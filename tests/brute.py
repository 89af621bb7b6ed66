"""Slow and plain answers for small lanes and logs, independent of the package."""

from itertools import combinations, product

START_NAMES = ("m", "c", "tt", "k", "ab", "z")
ARRIVING_NAMES = ("y", "aa", "p", "b", "x", "d", "q", "w", "e", "u", "f", "v")

FIVE_EVENTS = [("in", "a"), ("in", "b"), ("in", "c"), ("out",), ("in", "d")]


def logs_for(start, length):
    """All logs of this length for start, apart from the names of arriving cars."""
    found = []
    for words in product(("in", "out"), repeat=length):
        log = []
        present = len(start)
        names = iter(ARRIVING_NAMES)
        for word in words:
            present += 1 if word == "in" else -1
            if present < 0:
                break
            log.append(("in", next(names)) if word == "in" else ("out",))
        else:
            found.append(log)
    return found


def small_cases(limits):
    """Pairs (start, log): limits[n] is the length of the longest logs for n cars."""
    for cars, longest in enumerate(limits):
        start = START_NAMES[:cars]
        for length in range(longest + 1):
            for log in logs_for(start, length):
                yield start, log


def step(lane, event, side):
    """The lane after the event, and the departed car or None."""
    if event[0] == "in":
        return ((event[1],) + lane if side == "L" else lane + (event[1],)), None
    if side == "L":
        return lane[1:], lane[0]
    return lane[:-1], lane[-1]


def run(start, log, sides):
    """The final lane and the departed cars of one history."""
    lane = start
    gone = []
    for event, side in zip(log, sides):
        lane, car = step(lane, event, side)
        if car is not None:
            gone.append(car)
    return lane, gone


def final_lanes(start, log):
    """The set of the final lanes of all histories."""
    lanes = {start}
    for event in log:
        lanes = {step(lane, event, side)[0] for lane in lanes for side in "LR"}
    return lanes


def all_cars(start, log):
    return list(start) + [event[1] for event in log if event[0] == "in"]


def final_sets(start, log):
    """The sets of the cars of the final lanes."""
    return {frozenset(lane) for lane in final_lanes(start, log)}


def subsets(cars):
    for count in range(len(cars) + 1):
        yield from combinations(cars, count)


def size_at(start, log, moment):
    words = [event[0] for event in log[:moment]]
    return len(start) + words.count("in") - words.count("out")


def reason(start, log, cars):
    """The first reason against a set of cars, read off the document."""
    end = size_at(start, log, len(log))
    if len(cars) != end:
        return ("size", end)
    for moment in range(len(log) + 1):
        stay = set(all_cars(start, log[:moment])) & set(cars)
        if size_at(start, log, moment) < len(stay):
            return ("moment", moment)
    for place, car in enumerate(start):
        before = set(start[:place]) & set(cars)
        after = set(start[place + 1:]) & set(cars)
        if car not in cars and before and after:
            return ("block", car)
    left = right = 0
    while start[left] not in cars:
        left += 1
    while start[-1 - right] not in cars:
        right += 1
    arrivals = [index for index, event in enumerate(log) if event[0] == "in" and event[1] in cars]
    departures = log[:arrivals[0]].count(("out",))
    assert departures < min(left, right)
    return ("sides", left, right, departures)


def smallest_superset(start, log, sets, cars):
    """The smallest of the sets that contains the cars, as a tuple, or None."""
    order = all_cars(start, log)
    found = [sorted(order.index(car) for car in each) for each in sets if set(cars) <= each]
    return tuple(order[number] for number in min(found)) if found else None
