"""How calls are read and answers are written, and that nothing is changed or kept."""

import random
import unittest

import truckloads.trips
from support import GREATEST, NUMBER_OF, ask, random_load, taken_apart, written
from truckloads.trips import answers

EVERY_KIND = [
    ("create", 20),
    ("add_item", 11, 0, 1),
    ("add_item", 9, 1, 2),
    ("add_item", 8, 3, 5),
    ("set_distance", 2, 7),
    ("set_incompatible", 0, 3, 1),
    ("list_items",),
    ("in_conflict", 0, 2),
    ("min_trips",),
    ("first_minimal_plan",),
    ("shortest_plan", 3),
    ("valid_plan_count", 7),
    ("first_fit",),
    ("lower_bounds",),
    ("assign_item", 1, 6),
    ("get_plan",),
    ("is_plan_valid",),
    ("plan_length",),
    ("trip_info", 0),
    ("loading_order", 6),
    ("use_shortest_plan", 3),
    ("remaining_capacity", 1),
    ("min_trips_with_item", 20, 2, 0),
    ("min_trips_with_capacity", 11),
    ("min_trips_without_item", 2),
    ("summary",),
    ("remove_item", 1),
    ("set_capacity", 12),
]

EVERY_ANSWER = [
    [0], [0], [1], [2], [0], [0], [3, 11, 0, 1, 9, 1, 2, 8, 3, 5], [1], [2], [3, 0, 0, 1],
    [14, 0, 0, 1], [3], [2, 0, 0, 1], [2, 2, 5], [0], [3, 0, 6, 0], [0], [14, 2], [2, 19, 0, 0], [1, 1],
    [14], [12], [3], [3], [1], [3, 20, 28, 1, 0, 0, 7, 0, 0, 0], [2], [20],
]


class Answers(unittest.TestCase):
    def test_every_kind_of_call_in_one_list(self):
        self.assertEqual({call[0] for call in EVERY_KIND}, set(NUMBER_OF))
        self.assertEqual(ask(*EVERY_KIND), EVERY_ANSWER)

    def test_each_answer_has_its_count_ahead(self):
        expected = []
        for answer in EVERY_ANSWER:
            expected += [len(answer)] + answer
        self.assertEqual(answers(written(EVERY_KIND)), expected)

    def test_a_single_call(self):
        self.assertEqual(answers([0, 1]), [1, 0])
        self.assertEqual(answers([0, 0]), [1, -22])
        self.assertEqual(answers([4]), [1, -11])
        self.assertEqual(answers([25]), [1, -11])

    def test_one_list_of_whole_numbers(self):
        found = answers(written(EVERY_KIND))
        self.assertIs(type(found), list)
        self.assertEqual({type(number) for number in found}, {int})

    def test_the_longest_request(self):
        calls = [("create", 60)] + [("add_item", 1, 0, 0)] * 38 + [("list_items",)]
        self.assertEqual(len(calls), 40)
        found = ask(*calls)
        self.assertEqual(found[:8], [[0], [0], [1], [2], [3], [4], [5], [6]])
        self.assertEqual(found[8:39], [[-28]] * 31)
        self.assertEqual(found[39], [7] + [1, 0, 0] * 7)

    def test_a_request_of_160_numbers(self):
        calls = [2, GREATEST, GREATEST, GREATEST] * 40
        self.assertEqual(len(calls), 160)
        self.assertEqual(answers(calls), [1, -11] * 40)

    def test_the_numbers_of_calls_that_are_refused_are_passed_over(self):
        # Each of these numbers would be a call if it were read as one.
        found = ask(("create", 61), ("add_item", 0, 4, 8), ("create", 5), ("set_incompatible", 4, 4, 4), ("min_trips",))
        self.assertEqual(found, [[-22], [-11], [0], [-22], [0]])
        found = ask(("assign_item", 25, 25), ("create", 5), ("assign_item", 25, 25), ("trip_info", 25), ("get_plan",))
        self.assertEqual(found, [[-11], [0], [-2], [-2], [0]])

    def test_forty_costly_calls(self):
        setup = [("create", 60)] + [("add_item", 1, 0, stop % 6) for stop in range(7)]
        found = ask(*setup, *[("shortest_plan", 7)] * 32)
        self.assertEqual(found[8:], [[0] + [0] * 7] * 32)
        found = ask(*setup, *[("use_shortest_plan", 7), ("min_trips_with_capacity", 7)] * 16)
        self.assertEqual(found[8:], [[0], [1]] * 16)


class NothingIsChangedOrKept(unittest.TestCase):
    def test_the_list_handed_in_stays_as_it_was(self):
        calls = written(EVERY_KIND)
        before = list(calls)
        answers(calls)
        self.assertEqual(calls, before)

    def test_the_list_is_not_changed_for_a_while_either(self):
        class Watched(list):
            def refuse(self, *unused):
                raise AssertionError("the list handed in was changed")

            append = extend = insert = pop = remove = clear = sort = reverse = refuse
            __setitem__ = __delitem__ = __iadd__ = __imul__ = refuse

        calls = written(EVERY_KIND)
        self.assertEqual(answers(Watched(calls)), answers(calls))

    def test_the_same_call_twice_gives_the_same_answers(self):
        calls = written(EVERY_KIND)
        self.assertEqual(answers(calls), answers(calls))

    def test_what_is_given_back_is_not_kept(self):
        calls = written(EVERY_KIND)
        first = answers(calls)
        kept = list(first)
        first.clear()
        self.assertEqual(answers(calls), kept)

    def test_there_is_no_instance_at_first_each_time(self):
        answers(written(EVERY_KIND))
        self.assertEqual(ask(("list_items",), ("min_trips",)), [[-11], [-11]])

    def test_a_new_instance_has_nothing_of_an_earlier_call(self):
        answers(written([("create", 60), ("set_distance", 0, 9), ("set_incompatible", 1, 2, 1), ("add_item", 1, 0, 0)]))
        found = ask(("create", 10), ("list_items",), ("get_plan",), ("summary",), ("lower_bounds",))
        self.assertEqual(found, [[0], [0], [0], [0, 10, 0, 0, 0, 0, 0, 0, 0, 0], [0, 0, 0]])

    def test_calls_in_between_change_no_answer(self):
        chance = random.Random(11)
        requests = []
        for _ in range(30):
            load = random_load(chance, 6)
            behind = [("first_fit",), ("use_shortest_plan", 6), ("get_plan",), ("summary",), ("lower_bounds",)]
            requests.append(written(load.calls() + behind))
        once = [answers(request) for request in requests]
        again = [answers(request) for request in reversed(requests)]
        self.assertEqual(once, again[::-1])

    def test_the_module_holds_the_same_values_behind_a_call(self):
        def values():
            held = vars(truckloads.trips).items()
            return {name: repr(value) for name, value in held if not name.startswith("__")}

        before = values()
        answers(written(EVERY_KIND))
        self.assertEqual(values(), before)

    def test_answers_can_be_taken_apart_for_any_load(self):
        chance = random.Random(12)
        for _ in range(50):
            load = random_load(chance, 7)
            calls = load.calls() + [("list_items",), ("first_minimal_plan",), ("first_fit",)]
            self.assertEqual(len(taken_apart(answers(written(calls)))), len(calls))
