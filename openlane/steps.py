"""The steps from one stayer to the next, which counting, positions and patterns share.

An opening is a pair (low, high): start[low:high] is the block, and (0, 0) stands
for no block. A node is a pair (at, stay): the arriving car of this index becomes
a stayer, as the one that makes it so many stayers. With stay 1 it is the first
stayer of all, which has no side. The index -1 stands for the beginning.
"""

from openlane.logs import departure_counts, numbers, sizes


class Steps:
    """The steps that a log for the lane start allows."""

    def __init__(self, start, log):
        departed = departure_counts(log)
        present = sizes(start, log)
        arrivals = [moment for moment, event in enumerate(log, 1) if event[0] == "in"]
        self.start = start
        self.cars = numbers(start, log)[len(start):]
        self.final = present[-1]
        # For each arriving car, the counts at the moment after its arrival.
        self.departed = [departed[moment] for moment in arrivals]
        self.present = [present[moment] for moment in arrivals]
        self.ways = self.count_ways()

    def blocks(self):
        """The openings with a block, in the order of the sets that begin with them."""
        found = []
        for low in range(len(self.start)):
            longest = min(len(self.start), low + self.final)
            for high in range(longest, low, -1):
                found.append((low, high))
        return found

    def openings(self):
        """All openings, in the order of the sets that begin with them."""
        return self.blocks() + [(0, 0)]

    def next_stayers(self, at, stay):
        """The indexes of the cars that can be the next stayer after so many."""
        found = []
        for later in range(at + 1, len(self.cars)):
            # Between two arrivals the lane is smallest just before the second one.
            if stay == self.final or self.present[later] - 1 < stay:
                break
            found.append(later)
        return found

    def can_end(self, at, stay):
        """Whether no further stayer is needed after so many, and none has to depart."""
        if stay != self.final:
            return False
        return all(count - 1 >= stay for count in self.present[at + 1:])

    def may_switch(self, at, stay, later):
        """Whether the next stayer can be on the other side than that of the node."""
        if stay == 1:
            return True
        return self.departed[later] - self.departed[at] >= self.present[at] - stay

    def first_sides(self, opening, later):
        """The sides that the first arriving stayer can have; None for the first of all."""
        low, high = opening
        if high == 0:
            return [None]
        needed = {"L": low, "R": len(self.start) - high}
        return [side for side in ("L", "R") if self.departed[later] >= needed[side]]

    def next_sides(self, side, at, stay, later):
        """The sides that the next stayer can have after a node on this side."""
        return ["L", "R"] if self.may_switch(at, stay, later) else [side]

    def count_ways(self):
        """For each index and each stay, the number of ways to go on from that node.

        A way is a choice of all later stayers and their sides. For a node that
        leads to no possible lane the number is 0.
        """
        ways = [[0] * (self.final + 1) for _ in self.cars]
        for at in range(len(self.cars) - 1, -1, -1):
            for stay in range(1, min(self.final, self.present[at]) + 1):
                total = 1 if self.can_end(at, stay) else 0
                for later in self.next_stayers(at, stay):
                    sides = 2 if self.may_switch(at, stay, later) else 1
                    total += sides * ways[later][stay + 1]
                ways[at][stay] = total
        return ways

    def count_after(self, opening):
        """The number of possible final lanes with this opening."""
        low, high = opening
        stay = high - low
        total = 1 if self.can_end(-1, stay) else 0
        for later in self.next_stayers(-1, stay):
            total += len(self.first_sides(opening, later)) * self.ways[later][stay + 1]
        return total
