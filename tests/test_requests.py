"""Whole requests of mixed calls, good and bad, beside the model."""

import random
import unittest

from model import Model
from support import GREATEST, NUMBER_OF, ask

# For each argument, its least and greatest value.
RANGES = {
    "create": [(1, 60)],
    "set_capacity": [(1, 60)],
    "add_item": [(1, 30), (0, 3), (0, 5)],
    "remove_item": [(0, 6)],
    "set_incompatible": [(0, 3), (0, 3), (0, 1)],
    "set_distance": [(0, 5), (0, 50)],
    "in_conflict": [(0, 6), (0, 6)],
    "shortest_plan": [(0, 7)],
    "valid_plan_count": [(0, 7)],
    "assign_item": [(0, 6), (0, 6)],
    "trip_info": [(0, 6)],
    "loading_order": [(0, 6)],
    "use_shortest_plan": [(0, 7)],
    "remaining_capacity": [(0, 6)],
    "min_trips_with_item": [(1, 30), (0, 3), (0, 5)],
    "min_trips_with_capacity": [(1, 60)],
    "min_trips_without_item": [(0, 6)],
}

SETTING = ["add_item"] * 6 + ["set_incompatible", "set_distance", "set_distance", "assign_item", "assign_item"]
ASKING = [name for name in NUMBER_OF if name not in ("create", "remove_item", "set_capacity")]


def drawn_number(chance, least, greatest):
    """Mostly a number within the range, now and then its ends or one outside."""
    draw = chance.randint(1, 40)
    if draw == 1:
        return max(0, least - 1)
    if draw == 2:
        return greatest + 1
    if draw == 3:
        return GREATEST
    if draw <= 8:
        return chance.choice([least, greatest])
    return chance.randint(least, greatest)


def drawn_call(chance, names):
    name = chance.choice(names)
    return (name, *[drawn_number(chance, *ends) for ends in RANGES.get(name, [])])


def drawn_request(chance):
    """A request that mostly creates first, builds, and then mixes every call."""
    calls = [drawn_call(chance, ASKING)] if chance.randint(1, 10) == 1 else []
    calls.append(drawn_call(chance, ["create"]))
    calls += [drawn_call(chance, SETTING) for _ in range(chance.randint(0, 18))]
    mixed = ASKING * 2 + ["assign_item", "assign_item", "remove_item", "set_capacity"]
    if chance.randint(1, 5) == 1:
        mixed.append("create")
    calls += [drawn_call(chance, mixed) for _ in range(chance.randint(1, 40 - len(calls)))]
    return calls


class WholeRequests(unittest.TestCase):
    def check(self, calls):
        model = Model()
        self.assertEqual(ask(*calls), [model.answer(call) for call in calls], calls)

    def test_random_requests(self):
        chance = random.Random(14)
        for _ in range(250):
            self.check(drawn_request(chance))

    def test_the_random_requests_reach_every_call_and_every_code(self):
        chance = random.Random(14)
        called = set()
        codes = set()
        for _ in range(250):
            calls = drawn_request(chance)
            for call, answer in zip(calls, ask(*calls)):
                called.add((call[0], answer[0] < 0))
                codes.add(min(answer[0], 0))
        self.assertEqual(codes, {0, -11, -2, -22, -28, -33})
        self.assertEqual({name for name, refused in called if not refused}, set(NUMBER_OF))

    def test_every_call_on_an_empty_instance(self):
        every = [(name, *[ends[0] for ends in RANGES.get(name, [])]) for name in NUMBER_OF]
        self.check([("create", 9)] + [call for call in every if call[0] not in ("create", "add_item")])
        self.check(every)
