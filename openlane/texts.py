"""Lanes, logs, sides and patterns as texts, and back."""

from openlane.errors import InvalidLog, InvalidPattern, InvalidSides, InvalidText
from openlane.logs import is_arrival, is_departure, is_lane, is_side, require_lane
from openlane.patterns import is_pattern


def format_lane(lane):
    """The text of a lane."""
    require_lane(lane)
    return " ".join(lane)


def format_log(log):
    """The text of a log for any lane."""
    if not is_any_log(log):
        raise InvalidLog("not a list of events in which no car arrives twice")
    return " ".join(["-" if event[0] == "out" else "+" + event[1] for event in log])


def format_sides(sides):
    """The text of a list of sides."""
    if not is_side_list(sides):
        raise InvalidSides("not a list of sides")
    return "".join(sides)


def format_pattern(pattern):
    """The text of a pattern."""
    if not is_pattern(pattern):
        raise InvalidPattern("not a tuple of distinct cars and None")
    return " ".join(["?" if entry is None else entry for entry in pattern])


def parse_lane(text):
    """The lane with this text."""
    lane = tuple(split_text(text))
    if not is_lane(lane):
        raise InvalidText("not the text of a lane")
    return lane


def parse_log(text):
    """The log with this text."""
    log = [parse_event(word) for word in split_text(text)]
    if not is_any_log(log):
        raise InvalidText("not the text of a log")
    return log


def parse_sides(text):
    """The list of sides with this text."""
    require_string(text)
    sides = list(text)
    if not is_side_list(sides):
        raise InvalidText("not the text of sides")
    return sides


def parse_pattern(text):
    """The pattern with this text."""
    pattern = tuple([None if word == "?" else word for word in split_text(text)])
    if not is_pattern(pattern):
        raise InvalidText("not the text of a pattern")
    return pattern


def is_any_log(value):
    """Whether any value is a log for some lane, however many cars that lane has."""
    if not isinstance(value, list):
        return False
    used = set()
    for event in value:
        if is_arrival(event) and event[1] not in used:
            used.add(event[1])
        elif not is_departure(event):
            return False
    return True


def is_side_list(value):
    """Whether any value is a list of sides."""
    return isinstance(value, list) and all(is_side(entry) for entry in value)


def require_string(value):
    """Raise InvalidText if the value is not a string."""
    if not isinstance(value, str):
        raise InvalidText("not a string")


def split_text(text):
    """The words of a text, of which the empty text has none."""
    require_string(text)
    # Two spaces beside each other leave an empty word, which no value has.
    return text.split(" ") if text else []


def parse_event(word):
    """The event with this word."""
    if word == "-":
        return ("out",)
    if not word.startswith("+"):
        raise InvalidText("not the text of an event")
    return ("in", word[1:])
