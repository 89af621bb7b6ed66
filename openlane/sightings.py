"""Which histories agree with the lanes that were seen at some moments.

A part is a tuple (before, events, lane): the lane seen before, or the first one,
the events since then, and the lane seen after them. A seen lane leaves nothing
open, so a history agrees if and only if it does in each part.
"""

from openlane.errors import InvalidSightings
from openlane.histories import count_histories, history
from openlane.lanes import is_possible
from openlane.logs import is_lane, require_log


def first_conflict(start, log, sightings):
    """The first index up to which no history agrees with the sightings, or None."""
    require_sightings(start, log, sightings)
    for index, (before, events, lane) in enumerate(list_parts(start, log, sightings)):
        # Behind a conflict the events need not be a log for the lane seen before.
        if not is_possible(before, events, lane):
            return index
    return None


def count_agreeing(start, log, sightings):
    """The number of histories of the whole log that agree with the sightings."""
    require_sightings(start, log, sightings)
    total = 1
    free = len(log)
    for before, events, lane in list_parts(start, log, sightings):
        ways = count_histories(before, events, lane)
        if ways == 0:
            return 0
        total = total * ways
        free -= len(events)
    return total << free


def seen_history(start, log, sightings):
    """The sides of the events up to the last sighting, or None if no history agrees."""
    require_sightings(start, log, sightings)
    sides = []
    for before, events, lane in list_parts(start, log, sightings):
        found = history(before, events, lane)
        if found is None:
            return None
        sides.extend(found)
    return sides


def require_sightings(start, log, sightings):
    """Raise the first error that applies to the three arguments."""
    require_log(start, log)
    if not isinstance(sightings, list):
        raise InvalidSightings("not a list")
    earliest = 0
    for sighting in sightings:
        if not is_sighting(sighting) or not earliest <= sighting[0] <= len(log):
            raise InvalidSightings("not a moment of the log, later than the one before, with a lane")
        earliest = sighting[0] + 1


def is_sighting(value):
    """Whether any value is a sighting at some moment of some log."""
    if not isinstance(value, tuple) or len(value) != 2:
        return False
    return isinstance(value[0], int) and not isinstance(value[0], bool) and is_lane(value[1])


def list_parts(start, log, sightings):
    """The parts of the log up to the last sighting."""
    parts = []
    before = start
    since = 0
    for moment, lane in sightings:
        parts.append((before, log[since:moment], lane))
        before = lane
        since = moment
    return parts
