"""Which lanes are possible final lanes, and what speaks against the others."""

from openlane.logs import departure_counts, numbers, opposite, require_lane, require_log, sizes
from openlane.stayers import block_range, extras, first_negative


def is_possible(start, log, lane):
    """Whether some history gives the lane."""
    return why_not(start, log, lane) is None


def why_not(start, log, lane):
    """The first reason why no history gives the lane, or None if one does."""
    require_final_lane(start, log, lane)
    if not has_right_cars(start, log, lane):
        return ("cars",)
    if not has_block(start, lane):
        return ("block",)
    peak = first_peak(numbers(start, log), lane)
    if peak is not None:
        return ("order", peak)
    moment = first_negative(extras(start, log, lane))
    if moment is not None:
        return ("moment", moment)
    return switch_conflict(start, log, lane)


def require_final_lane(start, log, lane):
    """Raise the first error that applies to the three arguments."""
    require_log(start, log)
    require_lane(lane)


def has_right_cars(start, log, lane):
    """Whether the lane has as many cars as are left, all of them known."""
    known = numbers(start, log)
    return len(lane) == sizes(start, log)[-1] and all(car in known for car in lane)


def has_block(start, lane):
    """Whether the common cars are one and the same slice of both lanes."""
    low, high = block_range(start, lane)
    begin, end = block_range(lane, start)
    return start[low:high] == lane[begin:end]


def first_peak(known, lane):
    """The first index of a car with a greater number than both neighbours, or None."""
    order = [known.index(car) for car in lane]
    for index in range(1, len(order) - 1):
        if order[index - 1] < order[index] > order[index + 1]:
            return index
    return None


def arriving_stayers(start, log, lane):
    """The cars of the lane that arrive, in order, as tuples (car, moment, side).

    The moment is the one after the arrival. The side is that of the first
    stayers on which the car stands in the lane; it is None for the car that is
    the first stayer of all.
    """
    low, high = block_range(lane, start)
    found = []
    for moment, event in enumerate(log, 1):
        if event[0] == "out" or event[1] not in lane:
            continue
        place = lane.index(event[1])
        if high == 0:
            low, high = place, place + 1
            found.append((event[1], moment, None))
        else:
            found.append((event[1], moment, "L" if place < low else "R"))
    return found


def switch_conflict(start, log, lane):
    """The reason "switch" for a lane that keeps the other conditions, or None."""
    departed = departure_counts(log)
    extra = extras(start, log, lane)
    low, high = block_range(start, lane)
    # How many departures an arrival at each end needs, from the moment since on.
    needed = {"L": low, "R": len(start) - high}
    before = None
    since = 0
    for car, moment, side in arriving_stayers(start, log, lane):
        if side is not None and departed[moment] - departed[since] < needed[side]:
            return ("switch", before, car)
        # The leavers can all be at the end at which this car did not arrive.
        needed = {"L": 0, "R": 0}
        if side is not None:
            needed[opposite(side)] = extra[moment]
        before = car
        since = moment
    return None
