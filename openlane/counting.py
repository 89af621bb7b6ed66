"""How many possible final lanes there are, and which one has which index."""

from openlane.errors import InvalidIndex, NotPossible
from openlane.lanes import arriving_stayers, is_possible
from openlane.logs import require_log
from openlane.stayers import block_range, can_stay
from openlane.steps import Steps


def count_orders(start, log, cars):
    """The number of possible final lanes with exactly these cars."""
    if not can_stay(start, log, cars):
        return 0
    steps = Steps(start, log)
    opening = block_range(start, cars)
    path = [at for at, car in enumerate(steps.cars) if car in cars]
    total = 1
    for place in range(len(path)):
        total = total * count_sides(steps, opening, path, place)
    return total


def count_lanes(start, log):
    """The number of all possible final lanes."""
    require_log(start, log)
    return count_all(Steps(start, log))


def count_all(steps):
    """The number of possible final lanes with any opening."""
    return sum([steps.count_after(opening) for opening in steps.openings()])


def nth_lane(start, log, index):
    """The possible final lane with this index."""
    require_log(start, log)
    steps = Steps(start, log)
    require_index(index, count_all(steps))
    openings = steps.openings()
    place, rest = pick([steps.count_after(opening) for opening in openings], index)
    opening = openings[place]
    path, rest = pick_path(steps, opening, rest)
    sides = pick_sides(steps, opening, path, rest)
    lane = start[opening[0]:opening[1]]
    for at, side in zip(path, sides):
        car = (steps.cars[at],)
        lane = car + lane if side == "L" else lane + car
    return lane


def require_index(index, count):
    """Raise InvalidIndex if the value is not an integer from 0 to count - 1."""
    if not isinstance(index, int) or isinstance(index, bool) or not 0 <= index < count:
        raise InvalidIndex("not an integer from 0 to the number of lanes less 1")


def pick(counts, index):
    """The place of the count in which the index falls, and what is left of the index."""
    place = 0
    while index >= counts[place]:
        index -= counts[place]
        place += 1
    return place, index


def pick_path(steps, opening, index):
    """The arriving stayers of the set in which the index falls, and what is left of it."""
    path = []
    words = 1
    while opening[1] - opening[0] + len(path) < steps.final:
        choices = next_choices(steps, opening, path)
        place, index = pick([words * many * ways for _, many, ways in choices], index)
        later, sides, _ = choices[place]
        path.append(later)
        words = words * sides
    return path, index


def next_choices(steps, opening, path):
    """The cars that can follow a path, as tuples (index, sides, ways).

    They are in order of arrival. Sides is the number of sides that the car can
    have for each word of the path, and ways the number of ways to go on after it.
    """
    stay = opening[1] - opening[0] + len(path)
    choices = []
    for later in steps.next_stayers(path[-1] if path else -1, stay):
        sides = count_sides(steps, opening, path + [later], len(path))
        choices.append((later, sides, steps.ways[later][stay + 1]))
    return choices


def sides_of_place(steps, opening, path, place, before):
    """The sides that a stayer of the path can have if the one before it has this side."""
    if place == 0:
        return steps.first_sides(opening, path[0])
    stay = opening[1] - opening[0] + place
    return steps.next_sides(before, path[place - 1], stay, path[place])


def count_sides(steps, opening, path, place):
    """The number of sides that a stayer of the path can have."""
    # The number is the same whatever the side before is.
    return len(sides_of_place(steps, opening, path, place, "L"))


def pick_sides(steps, opening, path, index):
    """The sides of the arriving stayers in the word with this index."""
    # The count at index k is that of the words of the last k stayers.
    counts = [1]
    for place in range(len(path) - 1, -1, -1):
        counts.append(counts[-1] * count_sides(steps, opening, path, place))
    sides = []
    for place in range(len(path)):
        choices = sides_of_place(steps, opening, path, place, sides[-1] if sides else None)
        choice, index = divmod(index, counts[len(path) - 1 - place])
        sides.append(choices[choice])
    return sides


def rank_lane(start, log, lane):
    """The index of a possible final lane."""
    if not is_possible(start, log, lane):
        raise NotPossible("no history gives the lane")
    steps = Steps(start, log)
    opening = block_range(start, lane)
    path = []
    sides = []
    for car, _, side in arriving_stayers(start, log, lane):
        path.append(steps.cars.index(car))
        sides.append(side)
    rank = 0
    for other in steps.openings():
        if other == opening:
            break
        rank += steps.count_after(other)
    return rank + count_before_path(steps, opening, path) + rank_sides(steps, opening, path, sides)


def count_before_path(steps, opening, path):
    """The number of lanes of the smaller sets with the same opening."""
    total = 0
    words = 1
    for place, at in enumerate(path):
        for later, sides, ways in next_choices(steps, opening, path[:place]):
            if later < at:
                total += words * sides * ways
            elif later == at:
                words = words * sides
    return total


def rank_sides(steps, opening, path, sides):
    """The index of a word among the words of its set."""
    rank = 0
    for place, side in enumerate(sides):
        choices = sides_of_place(steps, opening, path, place, sides[place - 1])
        rank = rank * len(choices) + choices.index(side)
    return rank
