"""Every example of the document, [9] to [27], as it stands there."""

import ast
import unittest

from openlane import errors

EXAMPLES = '''
# 9
>>> from openlane.logs import is_lane
>>> is_lane(("a", "b", "a"))
False
>>> from openlane.logs import is_log
>>> is_log(("a",), [("out",), ("in", "b")])
True
# 10
>>> from openlane.logs import sizes
>>> sizes((), [("in", "a"), ("in", "b"), ("in", "c"), ("out",), ("in", "d")])
[0, 1, 2, 3, 2, 3]
>>> from openlane.logs import numbers
>>> numbers(("x",), [("out",), ("in", "a")])
['x', 'a']
# 11
>>> from openlane.logs import replay
>>> replay((), [("in", "a"), ("in", "b"), ("in", "c"), ("out",), ("in", "d")], ["R", "R", "R", "R", "L"])
(('d', 'a', 'b'), ['c'])
# 12
>>> from openlane.stayers import can_stay
>>> can_stay((), [("in", "a"), ("in", "b"), ("in", "c"), ("out",), ("in", "d")], ("a", "b", "c"))
False
# 13
>>> from openlane.stayers import why_cannot_stay
>>> why_cannot_stay((), [("in", "a"), ("in", "b"), ("in", "c"), ("out",), ("in", "d")], ("a", "b", "c"))
('moment', 4)
>>> from openlane.stayers import why_cannot_stay
>>> why_cannot_stay(("a", "b", "c"), [("in", "d"), ("out",), ("out",)], ("b", "d"))
('sides', 1, 1, 0)
# 14
>>> from openlane.stayers import complete
>>> complete((), [("in", "a"), ("in", "b"), ("in", "c"), ("out",), ("in", "d")], ("c",))
('a', 'c', 'd')
# 15
>>> from openlane.lanes import is_possible
>>> is_possible((), [("in", "a"), ("in", "b"), ("in", "c"), ("out",), ("in", "d")], ("d", "b", "c"))
True
>>> from openlane.lanes import why_not
>>> why_not((), [("in", "a"), ("in", "b"), ("in", "c"), ("in", "d"), ("out",)], ("c", "b", "d"))
('switch', 'c', 'd')
>>> from openlane.lanes import why_not
>>> why_not((), [("in", "a"), ("in", "b"), ("in", "c"), ("in", "d"), ("out",)], ("b", "d", "c"))
('order', 1)
# 16
>>> from openlane.histories import history
>>> history((), [("in", "a"), ("in", "b"), ("in", "c"), ("out",), ("in", "d")], ("d", "a", "b"))
['R', 'R', 'R', 'R', 'L']
>>> from openlane.histories import history
>>> history((), [("in", "a"), ("in", "b"), ("out",)], ("b",))
['R', 'L', 'R']
# 17
>>> from openlane.histories import count_histories
>>> count_histories((), [("in", "a"), ("in", "b"), ("out",)], ("b",))
4
# 18
>>> from openlane.histories import departure_ranks
>>> departure_ranks((), [("in", "a"), ("in", "b"), ("in", "c"), ("out",), ("out",)], ("b",), "c")
[0, 1]
# 19
>>> from openlane.counting import count_orders
>>> count_orders((), [("in", "a"), ("in", "b"), ("in", "c"), ("out",), ("in", "d")], ("b", "c", "d"))
4
>>> from openlane.counting import count_lanes
>>> count_lanes((), [("in", "a"), ("in", "b"), ("in", "c"), ("out",), ("in", "d")])
12
# 20
>>> from openlane.counting import nth_lane
>>> nth_lane((), [("in", "a"), ("in", "b"), ("in", "c"), ("out",), ("in", "d")], 2)
('d', 'a', 'b')
>>> from openlane.counting import rank_lane
>>> rank_lane((), [("in", "a"), ("in", "b"), ("in", "c"), ("out",), ("in", "d")], ("b", "c", "d"))
11
# 21
>>> from openlane.positions import left_ends
>>> left_ends((), [("in", "a"), ("in", "b"), ("in", "c"), ("in", "d"), ("out",)])
['a', 'b', 'c', 'd']
>>> from openlane.positions import left_range
>>> left_range((), [("in", "a"), ("in", "b"), ("in", "c"), ("in", "d"), ("out",)], "a")
(0, 2)
>>> from openlane.positions import can_touch
>>> can_touch((), [("in", "a"), ("in", "b"), ("in", "c"), ("in", "d"), ("out",)], "a", "d")
True
# 22
>>> from openlane.patterns import count_matching
>>> count_matching((), [("in", "a"), ("in", "b"), ("in", "c"), ("out",), ("in", "d")], (None, "a", None))
4
>>> from openlane.patterns import first_matching
>>> first_matching((), [("in", "a"), ("in", "b"), ("in", "c"), ("out",), ("in", "d")], (None, "a", None))
('b', 'a', 'd')
# 23
>>> from openlane.sightings import first_conflict
>>> first_conflict((), [("in", "a"), ("in", "b"), ("in", "c"), ("out",)], [(2, ("b", "a")), (4, ("a", "c"))])
>>> from openlane.sightings import first_conflict
>>> first_conflict((), [("in", "a"), ("in", "b"), ("in", "c"), ("out",)], [(2, ("b", "a")), (4, ("c", "a"))])
1
# 24
>>> from openlane.sightings import count_agreeing
>>> count_agreeing((), [("in", "a"), ("in", "b"), ("in", "c"), ("out",)], [(2, ("b", "a")), (4, ("a", "c"))])
2
>>> from openlane.sightings import seen_history
>>> seen_history((), [("in", "a"), ("in", "b"), ("in", "c"), ("out",)], [(2, ("b", "a")), (4, ("a", "c"))])
['L', 'L', 'R', 'L']
# 26
>>> from openlane.yard import Yard
>>> yard = Yard()
>>> yard.arrive("a")
>>> yard.arrive("b")
>>> yard.depart()
>>> yard.count_lanes()
2
>>> yard.see(("b",))
>>> yard.known()
('b',)
# 27
>>> from openlane.texts import parse_log
>>> parse_log("+a +b - +c")
[('in', 'a'), ('in', 'b'), ('out',), ('in', 'c')]
>>> from openlane.texts import parse_log
>>> parse_log("-")
[('out',)]
>>> from openlane.texts import format_log
>>> format_log([("in", "a"), ("out",)])
'+a -'
>>> from openlane.texts import parse_pattern
>>> parse_pattern("a ? c")
('a', None, 'c')
>>> from openlane.texts import format_sides
>>> format_sides(["L", "R"])
'LR'
>>> from openlane.texts import parse_lane
>>> parse_lane("a  b")
raises InvalidText
'''


class TestExamples(unittest.TestCase):

    def test_all_examples(self):
        names = {}
        answer = None
        points = []
        for line in EXAMPLES.strip().split("\n"):
            if line.startswith("# "):
                points.append(int(line[2:]))
                names = {}
            elif line.startswith(">>> "):
                self.assertIsNone(answer, line)
                answer = self.run_line(line[4:], names)
            else:
                self.check(answer, line)
                answer = None
        self.assertIsNone(answer)
        # The example of [25] and [26] stands behind both.
        self.assertEqual(points, list(range(9, 25)) + [26, 27])

    def run_line(self, line, names):
        """The answer of one line, or the class of its error."""
        if not isinstance(ast.parse(line).body[0], ast.Expr):
            exec(line, names)
            return None
        try:
            return eval(line, names)
        except errors.LaneError as error:
            return type(error)

    def check(self, answer, line):
        if line.startswith("raises "):
            self.assertIs(answer, getattr(errors, line[len("raises "):]))
        else:
            self.assertEqual(repr(answer), line)


if __name__ == "__main__":
    unittest.main()
