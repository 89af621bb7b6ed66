"""How many possible final lanes have given cars at given places, and the first of them.

A node is a tuple (at, before, low, high): the stayers so far stand at the places
from low to high - 1 of the final lane, and the latest of them is the arriving car
of the index at. Before is the side of that car, or None if it is the first stayer
of all. With the index -1 no stayer has arrived, and before is the opening (see
openlane.steps).
"""

from openlane.errors import InvalidPattern, TooLarge
from openlane.logs import is_lane, require_log, sizes
from openlane.stayers import require_known
from openlane.steps import Steps

LIMIT = 12


def count_matching(start, log, pattern):
    """The number of possible final lanes that match the pattern."""
    require_pattern(start, log, pattern)
    places = Places(start, log, pattern)
    total = 0
    for opening in places.steps.openings():
        total += sum([places.count_after(node) for node in places.first_nodes(opening)])
    return total


def first_matching(start, log, pattern):
    """The first possible final lane that matches the pattern, or None."""
    require_pattern(start, log, pattern)
    places = Places(start, log, pattern)
    for opening in places.steps.openings():
        nodes = places.first_nodes(opening)
        if any(places.count_after(node) > 0 for node in nodes):
            return first_lane(places, nodes, start[opening[0]:opening[1]])
    return None


def is_pattern(value):
    """Whether any value is a pattern for some lane."""
    if not isinstance(value, tuple):
        return False
    return is_lane(tuple([entry for entry in value if entry is not None]))


def require_pattern(start, log, pattern):
    """Raise the first error that applies to the three arguments."""
    require_log(start, log)
    if not is_pattern(pattern) or len(pattern) != sizes(start, log)[-1]:
        raise InvalidPattern("not a tuple with a car or None for each place")
    for entry in pattern:
        if entry is not None:
            require_known(start, log, entry)
    if len(pattern) > LIMIT:
        raise TooLarge(LIMIT)


class Places:
    """The nodes of the possible final lanes that match a pattern."""

    def __init__(self, start, log, pattern):
        self.steps = Steps(start, log)
        self.pattern = pattern
        # The number for each node that was asked for, since many paths lead to one node.
        self.counts = {}

    def fits(self, car, place):
        """Whether the pattern lets the car stand at the place."""
        if not 0 <= place < len(self.pattern):
            return False
        # A given car at another place needs no test, since nothing fits its own place then.
        return self.pattern[place] is None or self.pattern[place] == car

    def first_nodes(self, opening):
        """The nodes of an opening: one for each place at which its block can begin.

        Without a block, it is the place of the first stayer of all.
        """
        block = self.steps.start[opening[0]:opening[1]]
        found = []
        for low in range(len(self.pattern) - len(block) + 1):
            if all(self.fits(car, place) for place, car in enumerate(block, low)):
                found.append((-1, opening, low, low + len(block)))
        return found

    def next_nodes(self, node):
        """The nodes that can follow a node, in order of arrival."""
        low, high = node[2:]
        found = []
        for later in self.steps.next_stayers(node[0], high - low):
            for side in self.sides_after(node, later):
                place = low - 1 if side == "L" else high
                if self.fits(self.steps.cars[later], place):
                    found.append((later, side, min(low, place), max(high, place + 1)))
        return found

    def sides_after(self, node, later):
        """The sides that the next stayer can have after a node."""
        at, before, low, high = node
        if at < 0:
            return self.steps.first_sides(before, later)
        return self.steps.next_sides(before, at, high - low, later)

    def count_after(self, node):
        """The number of possible final lanes that match and go through a node."""
        if node not in self.counts:
            at, _, low, high = node
            total = 1 if self.steps.can_end(at, high - low) else 0
            for later in self.next_nodes(node):
                total += self.count_after(later)
            self.counts[node] = total
        return self.counts[node]


def first_lane(places, nodes, block):
    """The first lane that matches and goes through one of the nodes of an opening."""
    found = {node: ("", block) for node in nodes}
    for _ in range(len(places.pattern) - len(block)):
        found = next_lanes(places, found)
    return min(list(found.values()))[1]


def next_lanes(places, found):
    """The nodes with the earliest next stayer, each with its first word and its lane so far.

    The argument holds such nodes, too, all with the same stayers: the first set
    comes before the first word.
    """
    pairs = []
    for node in found:
        for later in places.next_nodes(node):
            if places.count_after(later) > 0:
                pairs.append((node, later))
    earliest = min([later[0] for _, later in pairs])
    grown = {}
    for node, later in pairs:
        if later[0] == earliest:
            longer = add_stayer(found[node], places.steps.cars[earliest], later[1])
            grown[later] = min(longer, grown.get(later, longer))
    return grown


def add_stayer(pair, car, side):
    """The word and the lane with one more stayer; the first stayer of all has no side."""
    word, lane = pair
    if side is None:
        return word, (car,)
    return word + side, ((car,) + lane if side == "L" else lane + (car,))
