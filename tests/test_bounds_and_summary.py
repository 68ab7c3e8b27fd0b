"""The calls 13 and 25: lower bounds with the largest conflict set, and the summary."""

import itertools
import unittest

from support import Load, ask


class WeightBound(unittest.TestCase):
    def bound(self, capacity, weights):
        return Load(capacity, [(weight, 0, 0) for weight in weights]).ask(("lower_bounds",))[0][0]

    def test_no_items(self):
        for capacity in (1, 2, 59, 60):
            self.assertEqual(self.bound(capacity, []), 0)

    def test_totals_that_the_capacity_divides(self):
        for capacity, weights, expected in ((10, [10], 1), (10, [6, 4], 1), (10, [9, 9, 2], 2), (1, [1] * 7, 7)):
            self.assertEqual(self.bound(capacity, weights), expected)

    def test_totals_that_the_capacity_does_not_divide(self):
        for capacity, weights, expected in ((10, [1], 1), (10, [9], 1), (10, [6, 5], 2), (10, [9, 9, 3], 3)):
            self.assertEqual(self.bound(capacity, weights), expected)
        self.assertEqual(self.bound(60, [30] * 7), 4)

    def test_items_heavier_than_the_capacity(self):
        self.assertEqual(self.bound(1, [30]), 30)
        self.assertEqual(self.bound(1, [30] * 7), 210)
        self.assertEqual(self.bound(29, [30]), 2)


class ConflictBound(unittest.TestCase):
    def check(self, load, size, number):
        self.assertEqual(load.ask(("lower_bounds",))[0][1:], [size, number])

    def test_no_items(self):
        self.assertEqual(Load(1).ask(("lower_bounds",)), [[0, 0, 0]])

    def test_one_item(self):
        self.assertEqual(Load(9, [(9, 0, 0)]).ask(("lower_bounds",)), [[1, 1, 1]])
        self.assertEqual(Load(9, [(1, 0, 0)], [(0, 0)]).ask(("lower_bounds",)), [[1, 1, 1]])
        self.assertEqual(Load(9, [(10, 0, 0)]).ask(("lower_bounds",)), [[2, 1, 1]])

    def test_without_conflicts_it_is_the_first_item(self):
        for count in range(1, 8):
            self.check(Load(60, [(1, 0, 0)] * count), 1, 1)

    def test_conflicts_by_weight(self):
        self.check(Load(10, [(4, 0, 0), (6, 0, 0), (5, 0, 0), (5, 0, 0)]), 2, 0b0110)
        self.check(Load(10, [(5, 0, 0), (6, 0, 0), (5, 0, 0), (7, 0, 0)]), 3, 0b1011)

    def test_conflicts_by_category(self):
        self.check(Load(60, [(1, 0, 0), (1, 1, 0), (1, 2, 0), (1, 3, 0)], [(3, 1), (3, 2)]), 2, 0b1010)
        self.check(Load(60, [(1, 0, 0), (1, 1, 0), (1, 2, 0), (1, 3, 0)], [(3, 1), (3, 2), (1, 2)]), 3, 0b1110)

    def test_conflicts_of_both_kinds(self):
        self.check(Load(10, [(9, 0, 0), (2, 1, 0), (1, 2, 0), (1, 0, 0)], [(1, 2), (2, 0)]), 3, 0b0111)

    def test_a_category_incompatible_with_itself(self):
        self.check(Load(60, [(1, 0, 0), (1, 2, 0), (1, 0, 0), (1, 2, 0), (1, 2, 0)], [(2, 2)]), 3, 0b11010)

    def test_seven_items(self):
        self.check(Load(60, [(1, 0, 0)] * 7, [(0, 0)]), 7, 127)
        self.check(Load(59, [(30, 0, 0)] * 7), 7, 127)
        self.check(Load(60, [(30, 0, 0)] * 5 + [(1, 1, 0)] * 2, [(1, 1)]), 2, 0b1100000)

    def test_ties_go_to_the_smaller_set_number(self):
        # The pairs 0, 3 and 1, 2 are in conflict: 9 and 6.
        self.check(Load(10, [(1, 0, 0), (1, 1, 0), (1, 2, 0), (1, 3, 0)], [(0, 3), (1, 2)]), 2, 0b0110)
        # The triples 0, 1, 6 and 3, 4, 5: 67 and 56.
        goods = [(1, 0, 0), (1, 0, 0), (1, 1, 0), (1, 2, 0), (1, 2, 0), (1, 2, 0), (1, 0, 0)]
        self.check(Load(10, goods, [(0, 0), (2, 2)]), 3, 0b0111000)

    def test_three_in_a_row_are_no_triple(self):
        self.check(Load(60, [(1, 0, 0), (1, 1, 0), (1, 2, 0)], [(0, 1), (1, 2)]), 2, 0b011)

    def test_it_follows_what_changes(self):
        load = Load(10, [(1, 0, 0), (6, 1, 0), (5, 2, 0)])
        found = load.ask(
            ("lower_bounds",),
            ("remove_item", 0),
            ("lower_bounds",),
            ("set_capacity", 11),
            ("lower_bounds",),
            ("set_incompatible", 2, 1, 1),
            ("lower_bounds",),
        )
        self.assertEqual(found[::2], [[2, 2, 6], [2, 2, 3], [1, 1, 1], [1, 2, 3]])

    def test_the_manual_plan_does_not_matter(self):
        load = Load(10, [(6, 0, 0), (5, 0, 0)])
        found = load.ask(("lower_bounds",), ("assign_item", 0, 5), ("lower_bounds",))
        self.assertEqual(found[0], found[2])


class Summary(unittest.TestCase):
    def test_nothing_yet(self):
        for capacity in (1, 2, 59, 60):
            self.assertEqual(Load(capacity).ask(("summary",)), [[0, capacity, 0, 0] + [0] * 6])

    def test_items_and_distances(self):
        load = Load(10, [(6, 0, 0), (4, 1, 1), (5, 0, 1)], [(0, 1)], [8, 3, 0, 50, 49, 1])
        self.assertEqual(load.ask(("summary",)), [[3, 10, 15, 1, 8, 3, 0, 50, 49, 1]])

    def test_seven_items(self):
        self.assertEqual(Load(1, [(30, 0, 0)] * 7).ask(("summary",)), [[7, 1, 210, 0] + [0] * 6])
        self.assertEqual(Load(1, [(1, 0, 0)] * 7).ask(("summary",)), [[7, 1, 7, 0] + [0] * 6])

    def count(self, *changes):
        return ask(("create", 9), *changes, ("summary",))[-1][3]

    def test_each_pair_counts_once(self):
        for a, b in itertools.product(range(4), repeat=2):
            self.assertEqual(self.count(("set_incompatible", a, b, 1)), 1)

    def test_a_pair_made_incompatible_twice_or_in_the_other_order(self):
        self.assertEqual(self.count(("set_incompatible", 1, 2, 1), ("set_incompatible", 1, 2, 1)), 1)
        self.assertEqual(self.count(("set_incompatible", 1, 2, 1), ("set_incompatible", 2, 1, 1)), 1)
        self.assertEqual(self.count(("set_incompatible", 3, 3, 1), ("set_incompatible", 3, 3, 1)), 1)

    def test_all_pairs(self):
        every = [("set_incompatible", a, b, 1) for a, b in itertools.product(range(4), repeat=2)]
        self.assertEqual(self.count(*every), 10)
        self.assertEqual(self.count(*every, ("set_incompatible", 2, 0, 0), ("set_incompatible", 2, 2, 0)), 8)

    def test_a_pair_made_compatible_again(self):
        self.assertEqual(self.count(("set_incompatible", 1, 2, 1), ("set_incompatible", 2, 1, 0)), 0)
        self.assertEqual(self.count(("set_incompatible", 1, 2, 0)), 0)

    def test_it_follows_what_changes(self):
        load = Load(10, [(6, 0, 0), (4, 1, 1)], [], [8])
        changes = [("remove_item", 0), ("set_capacity", 59), ("set_distance", 0, 7), ("add_item", 30, 0, 0)]
        self.assertEqual(load.ask(*changes, ("summary",))[-1], [2, 59, 34, 0, 7, 0, 0, 0, 0, 0])
        self.assertEqual(load.ask(("create", 3), ("summary",))[-1], [0, 3, 0, 0] + [0] * 6)
