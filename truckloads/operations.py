"""The operations on an instance: their checks, what they change and what they answer.

Each operation takes the instance and the whole numbers of its call, and gives back the
list of the numbers that it answers; a refusal is a list of one code. All checks stand
ahead of the first change, so a refused operation leaves the instance as it was.
"""

from truckloads.instance import CATEGORY_COUNT, STOP_COUNT, Item
from truckloads.plans import (
    are_in_conflict,
    count_of_trips,
    fewest_trips_plan,
    first_fit_plan,
    length_of_plan,
    shortest_valid_plan,
    valid_plans,
)

NO_SUCH_ITEM = -2
OUT_OF_RANGE = -22
TOO_MANY_ITEMS = -28
NO_VALID_PLAN = -33

GREATEST_CAPACITY = 60
GREATEST_WEIGHT = 30
GREATEST_DISTANCE = 50
GREATEST_ITEM_COUNT = 7
GREATEST_K = 7


def is_capacity(number):
    """Whether a truck may have this capacity."""
    return 1 <= number <= GREATEST_CAPACITY


def has_item(instance, item):
    """Whether there is an item with this number."""
    return item < len(instance.goods)


def set_capacity(instance, numbers):
    """1: capacity -> old capacity."""
    capacity = numbers[0]
    if not is_capacity(capacity):
        return [OUT_OF_RANGE]
    old_capacity = instance.capacity
    instance.capacity = capacity
    return [old_capacity]


def add_item(instance, numbers):
    """2: weight, category, stop -> the number of the new item."""
    weight = numbers[0]
    category = numbers[1]
    stop = numbers[2]
    if not 1 <= weight <= GREATEST_WEIGHT or category >= CATEGORY_COUNT or stop >= STOP_COUNT:
        return [OUT_OF_RANGE]
    if len(instance.goods) == GREATEST_ITEM_COUNT:
        return [TOO_MANY_ITEMS]
    instance.goods.append(Item(weight, category, stop))
    instance.manual_plan.append(0)
    return [len(instance.goods) - 1]


def remove_item(instance, numbers):
    """3: item -> how many items remain."""
    item = numbers[0]
    if not has_item(instance, item):
        return [NO_SUCH_ITEM]
    instance.goods.pop(item)
    instance.manual_plan.pop(item)
    return [len(instance.goods)]


def list_items(instance, numbers):
    """4: nothing -> how many items there are; the weight, category and stop of each."""
    answer = [len(instance.goods)]
    for item in instance.goods:
        answer.extend([item.weight, item.category, item.stop])
    return answer


def set_incompatible(instance, numbers):
    """5: category, category, 1 or 0 -> 1 if they were incompatible before, otherwise 0."""
    category_a = numbers[0]
    category_b = numbers[1]
    incompatible = numbers[2]
    if category_a >= CATEGORY_COUNT or category_b >= CATEGORY_COUNT or incompatible > 1:
        return [OUT_OF_RANGE]
    old_incompatible = instance.incompatible[category_a][category_b]
    instance.incompatible[category_a][category_b] = incompatible
    instance.incompatible[category_b][category_a] = incompatible
    return [old_incompatible]


def set_distance(instance, numbers):
    """6: stop, distance -> old distance."""
    stop = numbers[0]
    distance = numbers[1]
    if stop >= STOP_COUNT or distance > GREATEST_DISTANCE:
        return [OUT_OF_RANGE]
    old_distance = instance.distances[stop]
    instance.distances[stop] = distance
    return [old_distance]


def in_conflict(instance, numbers):
    """7: item, item -> 1 if they are in conflict, otherwise 0."""
    item_a = numbers[0]
    item_b = numbers[1]
    if not has_item(instance, item_a) or not has_item(instance, item_b):
        return [NO_SUCH_ITEM]
    return [1 if are_in_conflict(instance, item_a, item_b) else 0]


def min_trips(instance, numbers):
    """8: nothing -> the minimum number of trips."""
    plan = fewest_trips_plan(instance)
    if plan is None:
        return [NO_VALID_PLAN]
    return [count_of_trips(plan)]


def first_minimal_plan(instance, numbers):
    """9: nothing -> how many items there are; the trip of each in the first plan with fewest trips."""
    plan = fewest_trips_plan(instance)
    if plan is None:
        return [NO_VALID_PLAN]
    return [len(plan)] + plan


def shortest_plan(instance, numbers):
    """10: k -> the length of the shortest plan for k; the trip of each item."""
    k = numbers[0]
    if k > GREATEST_K:
        return [OUT_OF_RANGE]
    plan = shortest_valid_plan(instance, k)
    if plan is None:
        return [NO_VALID_PLAN]
    return [length_of_plan(instance, plan)] + plan


def valid_plan_count(instance, numbers):
    """11: k -> how many valid canonical plans have trip numbers less than k."""
    k = numbers[0]
    if k > GREATEST_K:
        return [OUT_OF_RANGE]
    return [len(valid_plans(instance, k))]


def first_fit(instance, numbers):
    """12: nothing -> how many trips the first-fit plan has; the trip of each item."""
    plan = first_fit_plan(instance)
    return [count_of_trips(plan)] + plan


OPERATIONS = {
    1: set_capacity,
    2: add_item,
    3: remove_item,
    4: list_items,
    5: set_incompatible,
    6: set_distance,
    7: in_conflict,
    8: min_trips,
    9: first_minimal_plan,
    10: shortest_plan,
    11: valid_plan_count,
    12: first_fit,
}


def operate(instance, call, numbers):
    """What the call, which is not create, answers on the instance."""
    if call not in OPERATIONS:
        raise NotImplementedError(f"call {call} is not built yet")
    return OPERATIONS[call](instance, numbers)
