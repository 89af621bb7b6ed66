"""A log that grows, with sightings of the whole lane in between."""

from openlane.counting import count_lanes, nth_lane
from openlane.errors import EmptyLane, InvalidCar, NotPossible, NothingToUndo, UsedCar
from openlane.lanes import is_possible
from openlane.logs import is_car, numbers, require_lane, sizes
from openlane.stayers import list_certain


class Yard:
    """A live log: what is open now, after the latest sighting."""

    def __init__(self, start=()):
        require_lane(start)
        self._start = start
        self._log = []
        self._actions = []
        # The first lane counts as a sighting that nobody can undo.
        self._sightings = [(0, start)]

    def arrive(self, car):
        """Append the arrival of a car."""
        if not is_car(car):
            raise InvalidCar("not one to four letters from a to z")
        if car in numbers(self._start, self._log):
            raise UsedCar(f"{car} was in the first lane or has arrived before")
        self._log.append(("in", car))
        self._actions.append("arrive")

    def depart(self):
        """Append a departure."""
        if self.size() == 0:
            raise EmptyLane("no car is present")
        self._log.append(("out",))
        self._actions.append("depart")

    def see(self, lane):
        """Record a sighting of the whole lane now."""
        if not self.is_possible(lane):
            raise NotPossible("no history since the latest sighting gives the lane")
        self._sightings.append((len(self._log), lane))
        self._actions.append("see")

    def undo(self):
        """Remove the latest action and return its name."""
        if not self._actions:
            raise NothingToUndo("no action is left")
        action = self._actions.pop()
        if action == "see":
            self._sightings.pop()
        else:
            self._log.pop()
        return action

    def size(self):
        """The number of cars now."""
        return sizes(self._start, self._log)[-1]

    def events(self):
        """The log so far."""
        return list(self._log)

    def is_possible(self, lane):
        """Whether the lane is possible now."""
        return is_possible(self._seen_lane(), self._events_since(), lane)

    def count_lanes(self):
        """The number of all lanes that are possible now."""
        return count_lanes(self._seen_lane(), self._events_since())

    def nth_lane(self, index):
        """The lane that is possible now with this index, in the order since the sighting."""
        return nth_lane(self._seen_lane(), self._events_since(), index)

    def known(self):
        """The cars that are in every lane that is possible now."""
        certain = list_certain(self._seen_lane(), self._events_since())
        # A seen lane need not stand in the order of the numbers of the whole log.
        return tuple([car for car in numbers(self._start, self._log) if car in certain])

    def _seen_lane(self):
        """The lane of the latest sighting."""
        return self._sightings[-1][1]

    def _events_since(self):
        """The events since the latest sighting."""
        return self._log[self._sightings[-1][0]:]
