"""Which sets of cars can be the set of the cars of a possible final lane."""

from openlane.errors import InvalidCars, UnknownCar
from openlane.logs import departure_counts, is_car, is_lane, numbers, require_log, sizes


def can_stay(start, log, cars):
    """Whether the cars can be exactly those of some possible final lane."""
    return why_cannot_stay(start, log, cars) is None


def why_cannot_stay(start, log, cars):
    """The first reason why the cars cannot stay, or None if they can."""
    require_cars(start, log, cars)
    final = sizes(start, log)[-1]
    if len(cars) != final:
        return ("size", final)
    moment = first_negative(extras(start, log, cars))
    if moment is not None:
        return ("moment", moment)
    gap = first_gap(start, cars)
    if gap is not None:
        return ("block", gap)
    return side_conflict(start, log, cars)


def complete(start, log, cars):
    """The smallest set that can stay and contains the cars, or None."""
    require_cars(start, log, cars)
    final = sizes(start, log)[-1]
    given = tuple([car for car in cars if car not in start])
    room = least_from_here(extras(start, log, given))
    arrivals = list_arrivals(log, given, room)
    # The first block that can be filled up gives the smallest set.
    for low, high in list_blocks(start, cars, room[0]):
        length = high - low
        # Without a block, low is 0 and no departure is needed.
        needed = min(low, len(start) - high)
        chosen = choose_arrivals(arrivals, length, needed)
        if chosen is not None and length + len(chosen) == final:
            return start[low:high] + tuple(chosen)
    return None


def list_certain(start, log):
    """The cars of every set that can stay."""
    departed = departure_counts(log)
    certain = []
    for place, car in enumerate(start):
        # A car of start leaves first if all others depart on its shorter side.
        if departed[-1] <= min(place, len(start) - 1 - place):
            certain.append(car)
    for moment, event in enumerate(log):
        # An arriving car can be the very next one that departs. Behind the last
        # departure there are arrivals only.
        if departed[moment] == departed[-1]:
            certain.append(event[1])
    return certain


def require_cars(start, log, cars):
    """Raise the first error that applies to the three arguments."""
    require_log(start, log)
    if not is_lane(cars):
        raise InvalidCars("not a tuple of distinct cars")
    known = numbers(start, log)
    for car in cars:
        if car not in known:
            raise UnknownCar(f"{car} is not in the first lane and does not arrive")


def require_known(start, log, car):
    """Raise UnknownCar for any value that is not one of the numbered cars."""
    # Only a car is compared, since the value may be anything.
    if not is_car(car) or car not in numbers(start, log):
        raise UnknownCar("not a car of the first lane, nor one that arrives")


def extras(start, log, cars):
    """For each moment the number of present cars less that of stayers so far."""
    stay = len([car for car in start if car in cars])
    present = sizes(start, log)
    found = [present[0] - stay]
    for event, count in zip(log, present[1:]):
        if event[0] == "in" and event[1] in cars:
            stay += 1
        found.append(count - stay)
    return found


def first_negative(counts):
    """The first index of a count below 0, or None."""
    for index, count in enumerate(counts):
        if count < 0:
            return index
    return None


def block_range(start, cars):
    """The bounds of the slice of start from its first to its last given car.

    Both bounds are 0 if start contains no given car.
    """
    places = [place for place, car in enumerate(start) if car in cars]
    return (places[0], places[-1] + 1) if places else (0, 0)


def first_gap(start, cars):
    """The first car of start that is missing between given cars, or None."""
    low, high = block_range(start, cars)
    for car in start[low:high]:
        if car not in cars:
            return car
    return None


def departures_before_first(log, cars):
    """The number of departures before the first given car arrives, or None."""
    departures = 0
    for event in log:
        if event[0] == "out":
            departures += 1
        elif event[1] in cars:
            return departures
    return None


def side_conflict(start, log, cars):
    """The reason "sides" for a set without a gap in start, or None."""
    low, high = block_range(start, cars)
    departures = departures_before_first(log, cars)
    if high == 0 or departures is None:
        return None
    left = low
    right = len(start) - high
    return ("sides", left, right, departures) if departures < min(left, right) else None


def least_from_here(counts):
    """For each index the least of the counts from there on."""
    least = list(counts)
    for index in range(len(counts) - 2, -1, -1):
        least[index] = min(least[index], least[index + 1])
    return least


def list_arrivals(log, given, room):
    """The arriving cars as tuples of four entries.

    They are the car, whether it is given, the number of departures before it,
    and the number of stayers that the moments from its arrival on have room for
    beside the given arriving cars.
    """
    arrivals = []
    departures = 0
    for moment, event in enumerate(log, 1):
        if event[0] == "out":
            departures += 1
        else:
            arrivals.append((event[1], event[1] in given, departures, room[moment]))
    return arrivals


def list_blocks(start, cars, longest):
    """The bounds of the blocks that contain the given cars of start.

    All sets that can stay have equally many cars, so a set is smaller if its
    block begins earlier, or begins at the same place and is longer. A set
    without a block is the greatest.
    """
    first, last = block_range(start, cars)
    latest = first if last > 0 else len(start) - 1
    blocks = []
    for low in range(latest + 1):
        shortest_end = max(last, low + 1)
        longest_end = min(len(start), low + longest)
        for high in range(longest_end, shortest_end - 1, -1):
            blocks.append((low, high))
    if last == 0 and longest >= 0:
        blocks.append((0, 0))
    return blocks


def choose_arrivals(arrivals, length, needed):
    """The given arriving cars, and each other one, in order, that still fits.

    The block has this length, and no stayer arrives before the needed number
    of departures. The result is None if a given car does. Each car that fits
    is taken, since later cars can fill up every set that fits.
    """
    chosen = []
    added = 0
    for car, is_given, departures, room in arrivals:
        if is_given and departures < needed:
            return None
        if is_given:
            chosen.append(car)
        elif departures >= needed and added < room - length:
            chosen.append(car)
            added += 1
    return chosen
