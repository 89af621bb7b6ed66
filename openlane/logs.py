"""Lanes, logs and histories: what they are, and what a history does."""

from openlane.errors import InvalidLane, InvalidLog, InvalidSides


def is_car(value):
    """Whether any value is a car."""
    if not isinstance(value, str) or not 1 <= len(value) <= 4:
        return False
    return all("a" <= letter <= "z" for letter in value)


def is_side(value):
    """Whether any value is a side."""
    return isinstance(value, str) and value in ("L", "R")


def is_lane(value):
    """Whether any value is a lane."""
    if not isinstance(value, tuple) or not all(is_car(entry) for entry in value):
        return False
    return len(set(value)) == len(value)


def is_arrival(value):
    """Whether any value is the arrival of a car."""
    return has_word(value, "in", 2) and is_car(value[1])


def is_departure(value):
    """Whether any value is a departure."""
    return has_word(value, "out", 1)


def has_word(value, word, length):
    """Whether any value is a tuple of this length that begins with the word."""
    # An entry may be anything, so it is compared only once it is a string.
    return (isinstance(value, tuple) and len(value) == length
            and isinstance(value[0], str) and value[0] == word)


def is_log(start, value):
    """Whether any value is a log for the lane start."""
    require_lane(start)
    if not isinstance(value, list):
        return False
    used = set(start)
    present = len(start)
    for event in value:
        if is_arrival(event) and event[1] not in used:
            used.add(event[1])
            present += 1
        elif is_departure(event) and present > 0:
            present -= 1
        else:
            return False
    return True


def require_lane(value):
    """Raise InvalidLane if the value is not a lane."""
    if not is_lane(value):
        raise InvalidLane("not a tuple of distinct cars")


def require_log(start, log):
    """Raise InvalidLane or InvalidLog if start is not a lane or log no log for it."""
    if not is_log(start, log):
        raise InvalidLog("not a list of events that can happen to the lane")


def require_sides(log, sides):
    """Raise InvalidSides if sides is not a list of one side per event."""
    if not isinstance(sides, list) or len(sides) != len(log):
        raise InvalidSides("not a list of one side per event")
    if not all(is_side(entry) for entry in sides):
        raise InvalidSides("a side is L or R")


def sizes(start, log):
    """The number of present cars at each moment."""
    require_log(start, log)
    counts = [len(start)]
    for event in log:
        change = 1 if event[0] == "in" else -1
        counts.append(counts[-1] + change)
    return counts


def numbers(start, log):
    """All cars in order of their numbers."""
    require_log(start, log)
    return list(start) + [event[1] for event in log if event[0] == "in"]


def replay(start, log, sides):
    """The final lane of a history, and the departed cars in order."""
    require_log(start, log)
    require_sides(log, sides)
    present = list(start)
    departed = []
    for event, side in zip(log, sides):
        car = move(present, event, side)
        if car is not None:
            departed.append(car)
    return tuple(present), departed


def move(present, event, side):
    """Change a list of cars as the event does at this side; the departed car, or None."""
    if event[0] == "in":
        present.insert(0 if side == "L" else len(present), event[1])
        return None
    return present.pop(0 if side == "L" else -1)


def opposite(side):
    """The other one of the two sides."""
    return "R" if side == "L" else "L"


def departure_counts(log):
    """The number of departures until each moment."""
    counts = [0]
    for event in log:
        counts.append(counts[-1] + (1 if event[0] == "out" else 0))
    return counts
