"""The document's example."""

import unittest

from support import ask
from truckloads.trips import answers


class TheDocumentsExample(unittest.TestCase):
    def test_rows_and_answers(self):
        rows = [
            (("create", 10), [0]),
            (("add_item", 6, 0, 0), [0]),
            (("add_item", 4, 1, 1), [1]),
            (("add_item", 5, 0, 1), [2]),
            (("set_distance", 0, 8), [0]),
            (("set_distance", 1, 3), [0]),
            (("min_trips",), [2]),
            (("first_minimal_plan",), [3, 0, 0, 1]),
            (("shortest_plan", 2), [22, 0, 0, 1]),
            (("set_incompatible", 0, 1, 1), [0]),
            (("lower_bounds",), [2, 3, 7]),
            (("min_trips",), [3]),
            (("shortest_plan", 2), [-33]),
            (("loading_order", 0), [3, 0, 1, 2]),
        ]
        self.assertEqual(ask(*[row[0] for row in rows]), [row[1] for row in rows])

    def test_as_it_is_written_number_by_number(self):
        calls = [0, 10, 2, 6, 0, 0, 2, 4, 1, 1, 2, 5, 0, 1, 6, 0, 8, 6, 1, 3]
        calls += [8, 9, 10, 2, 5, 0, 1, 1, 13, 8, 10, 2, 19, 0]
        expected = [1, 0, 1, 0, 1, 1, 1, 2, 1, 0, 1, 0]
        expected += [1, 2, 4, 3, 0, 0, 1, 4, 22, 0, 0, 1, 1, 0, 3, 2, 3, 7, 1, 3, 1, -33, 4, 3, 0, 1, 2]
        self.assertEqual(answers(calls), expected)
