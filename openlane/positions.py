"""Where a car can stand in possible final lanes, and beside which other cars.

Each node (see openlane.steps) whose stay is not greater than the lane at that
moment can be reached, and on either side: the cars nearest to the arriving car,
in any history, can be the stayers before it. From a greater stay nothing leads
on. So it is enough to ask what is possible after a node.
"""

from openlane.logs import opposite, require_log
from openlane.stayers import require_known
from openlane.steps import Steps


def left_ends(start, log):
    """The cars that are leftmost in some possible final lane, in order of their numbers."""
    require_log(start, log)
    steps = Steps(start, log)
    found = [car for place, car in enumerate(start) if block_can_be_left(steps, place)]
    for at, car in enumerate(steps.cars):
        if any(can_be_last_left(steps, at, stay) for stay in range(1, steps.final + 1)):
            found.append(car)
    return found


def block_can_be_left(steps, place):
    """Whether the car of start at this place is leftmost in some possible lane."""
    for low, high in steps.blocks():
        if low != place:
            continue
        stay = high - low
        if steps.can_end(-1, stay):
            return True
        for later in steps.next_stayers(-1, stay):
            # All later stayers can follow on the right.
            if steps.ways[later][stay + 1] > 0 and "R" in steps.first_sides((low, high), later):
                return True
    return False


def can_be_last_left(steps, at, stay):
    """Whether no later stayer need stand to the left of one that is leftmost at first."""
    if steps.can_end(at, stay):
        return True
    for later in steps.next_stayers(at, stay):
        if steps.ways[later][stay + 1] > 0 and steps.may_switch(at, stay, later):
            return True
    return False


def left_range(start, log, car):
    """The least and the greatest number of cars to the left of the car, or None."""
    require_log(start, log)
    require_known(start, log, car)
    steps = Steps(start, log)
    beside = ranges_beside(steps)
    if car in start:
        ranges = ranges_of_block_car(steps, beside, start.index(car))
    else:
        ranges = ranges_of_arriving_car(steps, beside, steps.cars.index(car))
    return span(ranges)


def span(ranges):
    """The least and the greatest number of all ranges, or None without a range."""
    if not ranges:
        return None
    return min([least for least, _ in ranges]), max([most for _, most in ranges])


def mirrored(pair, total):
    """The range of the numbers that those of the given range leave of a total."""
    least, most = pair
    return total - most, total - least


def ranges_beside(steps):
    """For each index and each stay, the range of later stayers on the same side.

    It is None for a node that leads to no possible lane. The first stayer of
    all counts as one on either side.
    """
    beside = [[None] * (steps.final + 1) for _ in steps.cars]
    for at in range(len(steps.cars) - 1, -1, -1):
        for stay in range(1, steps.final + 1):
            ranges = [(0, 0)] if steps.can_end(at, stay) else []
            for later in steps.next_stayers(at, stay):
                both = [False, True] if steps.may_switch(at, stay, later) else [False]
                ranges += ranges_with_next(steps, beside[later][stay + 1], stay, both)
            beside[at][stay] = span(ranges)
    return beside


def ranges_with_next(steps, pair, stay, switches):
    """The ranges of stayers after the first so many that stand on one side.

    The next stayer has the given range of later stayers beside it. It stands on
    that side itself for False among the switches, and on the other for True.
    """
    if pair is None:
        return []
    least, most = pair
    found = []
    for switch in switches:
        if switch:
            found.append(mirrored(pair, steps.final - stay - 1))
        else:
            found.append((least + 1, most + 1))
    return found


def ranges_of_arriving_car(steps, beside, at):
    """The ranges of the numbers of cars to the left of an arriving car."""
    ranges = []
    for pair in beside[at]:
        if pair is not None:
            # On the left side, the later stayers beside the car are to its left.
            ranges.append(pair)
            ranges.append(mirrored(pair, steps.final - 1))
    return ranges


def ranges_of_block_car(steps, beside, place):
    """The ranges of the numbers of cars to the left of a car of start."""
    ranges = []
    for low, high in steps.blocks():
        if not low <= place < high:
            continue
        stay = high - low
        arriving = [(0, 0)] if steps.can_end(-1, stay) else []
        for later in steps.next_stayers(-1, stay):
            switches = [side == "R" for side in steps.first_sides((low, high), later)]
            arriving += ranges_with_next(steps, beside[later][stay + 1], stay, switches)
        for least, most in arriving:
            ranges.append((place - low + least, place - low + most))
    return ranges


def can_touch(start, log, first, second):
    """Whether second is the right neighbour of first in some possible final lane."""
    require_log(start, log)
    require_known(start, log, first)
    require_known(start, log, second)
    if first == second:
        return False
    steps = Steps(start, log)
    if first in start and second in start:
        return can_share_block(steps, start.index(first), start.index(second))
    if first in start:
        blocks = [(low, high) for low, high in steps.blocks() if high == start.index(first) + 1]
        return can_be_first_beside(steps, blocks, steps.cars.index(second), "R")
    if second in start:
        blocks = [(low, high) for low, high in steps.blocks() if low == start.index(second)]
        return can_be_first_beside(steps, blocks, steps.cars.index(first), "L")
    # Which one arrives later decides the side; on both sides the same steps are possible.
    left = steps.cars.index(first)
    right = steps.cars.index(second)
    return can_be_next_beside(steps, min(left, right), max(left, right))


def can_share_block(steps, left, right):
    """Whether the cars of start at these places are adjacent in some possible lane."""
    if left + 1 != right:
        return False
    for low, high in steps.blocks():
        if low <= left and right < high and steps.count_after((low, high)) > 0:
            return True
    return False


def can_be_first_beside(steps, blocks, target, side):
    """Whether the target can be the first stayer on this side of one of the blocks."""
    sources = {}
    for low, high in blocks:
        stay = high - low
        for later in steps.next_stayers(-1, stay):
            sides = steps.first_sides((low, high), later)
            if later == target and side in sides and steps.ways[target][stay + 1] > 0:
                return True
            if opposite(side) in sides:
                sources[(later, stay + 1)] = True
    return can_switch_to(steps, sources, target)


def can_be_next_beside(steps, at, target):
    """Whether the target can be the next stayer on the side of the car at this index."""
    sources = {}
    for stay in range(1, steps.final):
        for later in steps.next_stayers(at, stay):
            if later == target and steps.ways[target][stay + 1] > 0:
                return True
            if steps.may_switch(at, stay, later):
                sources[(later, stay + 1)] = True
    return can_switch_to(steps, sources, target)


def can_switch_to(steps, sources, target):
    """Whether the target can be the first stayer on the other side than the sources.

    The sources are nodes that can be reached on one side, as keys of a dict. A
    path from them stays on that side until the target, and then can go on.
    """
    nodes = {node: True for node in sources}
    for at in range(target):
        for stay in range(2, steps.final):
            if (at, stay) not in nodes:
                continue
            for later in steps.next_stayers(at, stay):
                nodes[(later, stay + 1)] = True
                if later == target and steps.ways[target][stay + 1] > 0:
                    if steps.may_switch(at, stay, target):
                        return True
    return False
