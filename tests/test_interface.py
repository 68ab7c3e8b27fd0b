"""How calls are read and answers are written, and that nothing is changed or kept."""

import random
import unittest

import truckloads.trips
from support import GREATEST, ask, random_load, taken_apart, written
from truckloads.trips import answers

EVERY_KIND = [
    ("create", 20),
    ("add_item", 11, 0, 1),
    ("add_item", 9, 1, 2),
    ("add_item", 8, 3, 5),
    ("set_distance", 2, 7),
    ("set_incompatible", 0, 3, 1),
    ("list_items",),
    ("in_conflict", 0, 2),
    ("min_trips",),
    ("first_minimal_plan",),
    ("shortest_plan", 3),
    ("valid_plan_count", 7),
    ("first_fit",),
    ("remove_item", 1),
    ("set_capacity", 12),
]


class Answers(unittest.TestCase):
    def test_every_kind_of_call_in_one_list(self):
        self.assertEqual(
            answers(written(EVERY_KIND)),
            [1, 0, 1, 0, 1, 1, 1, 2, 1, 0, 1, 0, 10, 3, 11, 0, 1, 9, 1, 2, 8, 3, 5, 1, 1, 1, 2, 4, 3, 0, 0, 1]
            + [4, 14, 0, 0, 1, 1, 3, 4, 2, 0, 0, 1, 1, 2, 1, 20],
        )

    def test_a_single_call(self):
        self.assertEqual(answers([0, 1]), [1, 0])
        self.assertEqual(answers([0, 0]), [1, -22])
        self.assertEqual(answers([4]), [1, -11])

    def test_one_list_of_whole_numbers(self):
        found = answers(written(EVERY_KIND))
        self.assertIs(type(found), list)
        self.assertEqual({type(number) for number in found}, {int})

    def test_the_longest_request(self):
        calls = [("create", 60)] + [("add_item", 1, 0, 0)] * 38 + [("list_items",)]
        self.assertEqual(len(calls), 40)
        found = ask(*calls)
        self.assertEqual(found[:8], [[0], [0], [1], [2], [3], [4], [5], [6]])
        self.assertEqual(found[8:39], [[-28]] * 31)
        self.assertEqual(found[39], [7] + [1, 0, 0] * 7)

    def test_a_request_of_160_numbers(self):
        calls = [2, GREATEST, GREATEST, GREATEST] * 40
        self.assertEqual(len(calls), 160)
        self.assertEqual(answers(calls), [1, -11] * 40)

    def test_the_numbers_of_calls_that_are_refused_are_passed_over(self):
        # Each of these numbers would be a call if it were read as one.
        found = ask(("create", 61), ("add_item", 0, 4, 8), ("create", 5), ("set_incompatible", 4, 4, 4), ("min_trips",))
        self.assertEqual(found, [[-22], [-11], [0], [-22], [0]])

    def test_forty_costly_calls(self):
        setup = [("create", 60)] + [("add_item", 1, 0, stop % 6) for stop in range(7)]
        found = ask(*setup, *[("shortest_plan", 7)] * 32)
        self.assertEqual(found[8:], [[0] + [0] * 7] * 32)


class NothingIsChangedOrKept(unittest.TestCase):
    def test_the_list_handed_in_stays_as_it_was(self):
        calls = written(EVERY_KIND)
        before = list(calls)
        answers(calls)
        self.assertEqual(calls, before)

    def test_the_list_is_not_changed_for_a_while_either(self):
        class Watched(list):
            def refuse(self, *unused):
                raise AssertionError("the list handed in was changed")

            append = extend = insert = pop = remove = clear = sort = reverse = refuse
            __setitem__ = __delitem__ = __iadd__ = __imul__ = refuse

        calls = written(EVERY_KIND)
        self.assertEqual(answers(Watched(calls)), answers(calls))

    def test_the_same_call_twice_gives_the_same_answers(self):
        calls = written(EVERY_KIND)
        self.assertEqual(answers(calls), answers(calls))

    def test_what_is_given_back_is_not_kept(self):
        calls = written(EVERY_KIND)
        first = answers(calls)
        kept = list(first)
        first.clear()
        self.assertEqual(answers(calls), kept)

    def test_there_is_no_instance_at_first_each_time(self):
        answers(written(EVERY_KIND))
        self.assertEqual(ask(("list_items",), ("min_trips",)), [[-11], [-11]])

    def test_a_new_instance_has_nothing_of_an_earlier_call(self):
        answers(written([("create", 60), ("set_distance", 0, 9), ("set_incompatible", 1, 2, 1), ("add_item", 1, 0, 0)]))
        found = ask(("create", 10), ("list_items",), ("set_distance", 0, 0), ("set_incompatible", 1, 2, 0))
        self.assertEqual(found, [[0], [0], [0], [0]])

    def test_calls_in_between_change_no_answer(self):
        chance = random.Random(11)
        requests = []
        for _ in range(30):
            load = random_load(chance, 6)
            requests.append(written(load.calls() + [("list_items",), ("first_fit",), ("shortest_plan", 6)]))
        once = [answers(request) for request in requests]
        again = [answers(request) for request in reversed(requests)]
        self.assertEqual(once, again[::-1])

    def test_the_module_holds_the_same_values_behind_a_call(self):
        def values():
            held = vars(truckloads.trips).items()
            return {name: repr(value) for name, value in held if not name.startswith("__")}

        before = values()
        answers(written(EVERY_KIND))
        self.assertEqual(values(), before)

    def test_answers_can_be_taken_apart_for_any_load(self):
        chance = random.Random(12)
        for _ in range(50):
            load = random_load(chance, 7)
            calls = load.calls() + [("list_items",), ("first_minimal_plan",), ("first_fit",)]
            self.assertEqual(len(taken_apart(answers(written(calls)))), len(calls))
