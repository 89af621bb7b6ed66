"""Large logs and lanes that several tests use, and a clock for them."""

import random
import time
from itertools import product

from tests.test_stayers import START_40, random_log

LETTERS = "abcdefghijklmnopqrstuvwxyz"
NAMES = tuple(first + second for first, second in product(LETTERS[:8], LETTERS))

# Each lane with its log, a sign per event.
PATTERNS = (
    (0, "+" * 40),
    (0, "+" * 40 + "-" * 20),
    (0, "+" * 40 + "-" * 40),
    (0, "+-" * 60),
    (0, "+" * 40 + "-" * 40 + "+" * 40),
    (0, "+" * 40 + "-+" * 40),
    (0, "+" * 20 + "+-" * 50),
    (0, "+" * 40 + "-" * 20 + "+" * 20 + "-" * 20 + "+" * 20),
    (20, "+-" * 52 + "-" * 10),
    (20, "+" * 20 + "-+" * 40 + "-" * 20),
    (39, "+-" * 60),
    (40, "-+" * 60),
    (40, "-+" * 40 + "-" * 39),
    (40, "-" * 40 + "+-" * 40),
    (40, "-" * 20 + "+" * 20 + "-" * 20 + "+" * 20 + "-" * 20 + "+" * 20),
)


def build_log(signs):
    """A log with an event for each sign."""
    names = iter(NAMES)
    return [("in", next(names)) if sign == "+" else ("out",) for sign in signs]


def large_cases():
    """Pairs (start, log) of up to 40 cars and 125 events."""
    found = [(START_40[:count], build_log(signs)) for count, signs in PATTERNS]
    for seed, count in enumerate((0, 1, 10, 20, 30, 40)):
        source = random.Random(seed)
        found.append((START_40[:count], random_log(source, START_40[:count], 125, 40)))
    return found


def random_sides(source, log):
    """A history; long runs of one side let many cars of the lane stay."""
    sides = []
    for _ in log:
        sides.append(source.choice("LR") if not sides or source.random() < 0.3 else sides[-1])
    return sides


def quickly(test, function, *values):
    """The answer of a function, which must come within a moment."""
    begin = time.perf_counter()
    found = function(*values)
    test.assertLess(time.perf_counter() - begin, 2, function.__name__)
    return found
