"""The histories that give a lane: one of them, their number, and who departs when."""

from openlane.lanes import arriving_stayers, is_possible, require_final_lane
from openlane.logs import move, opposite
from openlane.stayers import block_range, extras, require_known


def history(start, log, lane):
    """The history in which leavers keep away from the next stayer, or None."""
    if not is_possible(start, log, lane):
        return None
    present = list(start)
    sides = []
    for event, wanted in zip(log, wanted_sides(start, log, lane)):
        side = side_of_event(present, event, lane, wanted)
        move(present, event, side)
        sides.append(side)
    return sides


def wanted_sides(start, log, lane):
    """For each event the side of the next stayer, at this event or later."""
    known = {moment: side for _, moment, side in arriving_stayers(start, log, lane)}
    sides = ["L"] * len(log)
    side = "L"
    for moment in range(len(log), 0, -1):
        # The first stayer of all has no side and takes that of the second one.
        if known.get(moment) is not None:
            side = known[moment]
        sides[moment - 1] = side
    return sides


def side_of_event(present, event, lane, wanted):
    """The side at which the event happens if stayers arrive at the wanted side."""
    if event[0] == "in":
        return wanted if event[1] in lane else opposite(wanted)
    outermost = present[0] if wanted == "L" else present[-1]
    return opposite(wanted) if outermost in lane else wanted


def count_histories(start, log, lane):
    """The number of histories that give the lane."""
    if not is_possible(start, log, lane):
        return 0
    kinds = list_kinds(start, log, lane)
    if not lane:
        return 1 << len(kinds)
    ways = list_ways(kinds, extras(start, log, lane))
    low, high = block_range(start, lane)
    if high > 0:
        return ways[0][low]
    # Both sides of each event before the first stayer are free, and the first
    # stayer has all leavers on its right or all on its left.
    first = kinds.index("first")
    return (ways[first + 1][0] + ways[first + 1][-1]) << first


def list_kinds(start, log, lane):
    """For each event what it does to the leavers beside the stayers.

    It is "out" for a departure, "in" for the arrival of a leaver, "first" for
    that of the first stayer of all, and "L" or "R" for that of another stayer.
    """
    known = {moment: side for _, moment, side in arriving_stayers(start, log, lane)}
    kinds = []
    for moment, event in enumerate(log, 1):
        if moment not in known:
            kinds.append(event[0])
        else:
            kinds.append("first" if known[moment] is None else known[moment])
    return kinds


def list_ways(kinds, extra):
    """For each moment the numbers of histories of the events from there on.

    They are a list with one number for each count of leavers to the left of the
    stayers. Before the first stayer has arrived the list is empty.
    """
    ways = [[] for _ in extra]
    ways[-1] = [1]
    for moment in range(len(kinds) - 1, -1, -1):
        if kinds[moment] == "first":
            break
        ways[moment] = ways_before(kinds[moment], ways[moment + 1], extra[moment])
    return ways


def ways_before(kind, later, extra):
    """The numbers of histories before an event from those after it."""
    if kind == "in":
        return [later[left] + later[left + 1] for left in range(extra + 1)]
    if kind == "out":
        # A departure on the left leads to later[left - 1], one on the right to later[left].
        shifted = [0] + later
        same = later + [0]
        return [shifted[left] + same[left] for left in range(extra + 1)]
    # No leaver may be where a stayer arrives.
    only = 0 if kind == "L" else extra
    return [later[left] if left == only else 0 for left in range(extra + 1)]


def departure_ranks(start, log, lane, car):
    """All k such that the car is the k-th departed one in a history of the lane."""
    require_final_lane(start, log, lane)
    require_known(start, log, car)
    if car in lane or not is_possible(start, log, lane):
        return []
    kinds = list_kinds(start, log, lane)
    ways = list_ways(kinds, extras(start, log, lane))
    states = first_states(start, lane, car)
    ranks = []
    departures = 0
    for moment, event in enumerate(log):
        if event[0] == "out":
            if can_depart(states, ways[moment + 1]):
                ranks.append(departures)
            departures += 1
        if event == ("in", car):
            states = states_with_car(states, "first" in kinds[moment:] or not lane)
        else:
            states = next_states(states, kinds[moment])
    return ranks


def first_states(start, lane, car):
    """The state at the beginning, as the only key of a dict.

    A state tells where the car is among the leavers, and consists of a word and
    two counts of leavers:
    "absent": the car has not arrived; to the left and to the right of the stayers;
    "alone": there is no stayer; to the left and to the right of the car;
    "L", "R": the side of the stayers on which the car is; further out than the
    car, and on the other side.
    Without a stayer, "absent" divides the leavers at any place.
    """
    low, high = block_range(start, lane)
    if car not in start:
        return {("absent", low, len(start) - high): True}
    place = start.index(car)
    right = len(start) - 1 - place
    if high == 0:
        return {("alone", place, right): True}
    if place < low:
        return {("L", place, len(start) - high): True}
    return {("R", right, low): True}


def states_with_car(states, alone):
    """The states after the arrival of the car itself."""
    found = {}
    for _, left, right in states:
        if alone:
            found[("alone", 0, left + right)] = True
            found[("alone", left + right, 0)] = True
        else:
            found[("L", 0, right)] = True
            found[("R", 0, left)] = True
    return found


def next_states(states, kind):
    """The states after another event at which the car does not depart."""
    found = {}
    for where, one, two in states:
        if kind == "in":
            found[(where, one + 1, two)] = True
            found[(where, one, two + 1)] = True
        elif kind == "out":
            if one > 0:
                found[(where, one - 1, two)] = True
            if two > 0:
                found[(where, one, two - 1)] = True
        elif kind == "first":
            for state in states_beside_first(where, one, two):
                found[state] = True
        elif lets_arrive(kind, where, one, two):
            found[(where, one, two)] = True
    return found


def states_beside_first(where, one, two):
    """The two states after the first stayer of all arrives, on the left or on the right."""
    if where == "absent":
        return [(where, 0, one + two), (where, one + two, 0)]
    return [("R", two, 0), ("L", one, 0)]


def lets_arrive(side, where, one, two):
    """Whether no leaver is on the side at which a later stayer arrives."""
    if where == "absent":
        return one == 0 if side == "L" else two == 0
    return where != side and two == 0


def can_depart(states, later):
    """Whether the car can depart now, so that the later events can give the lane.

    The argument later has the numbers of histories after this departure.
    """
    for where, one, two in states:
        if where == "alone" and (one == 0 or two == 0):
            return True
        # The leavers that are left are those of the other side and, nearer
        # to the stayers than the car, the others.
        if where == "L" and one == 0 and later[len(later) - 1 - two] > 0:
            return True
        if where == "R" and one == 0 and later[two] > 0:
            return True
    return False
