"""The operations on an instance: their checks, what they change and what they answer.

Each operation takes the instance and the whole numbers of its call, and gives back the
list of the numbers that it answers; a refusal is a list of one code. All checks stand
ahead of the first change, so a refused operation leaves the instance as it was.
"""

from truckloads.bounds import largest_conflict_set, least_trips_by_weight, number_of_set
from truckloads.instance import (
    CATEGORY_COUNT,
    STOP_COUNT,
    Item,
    copy_of,
    count_of_incompatible_pairs,
    total_weight,
)
from truckloads.plans import (
    TRIP_COUNT,
    are_in_conflict,
    count_of_trips,
    farthest_first,
    fewest_trips_plan,
    first_fit_plan,
    is_valid_plan,
    is_valid_trip,
    length_of_plan,
    length_of_trip,
    members_of_trip,
    shortest_valid_plan,
    valid_plans,
    weight_of_trip,
)

NOT_THERE = -2
OUT_OF_RANGE = -22
TOO_MANY_ITEMS = -28
NO_VALID_PLAN = -33

GREATEST_CAPACITY = 60
GREATEST_WEIGHT = 30
GREATEST_DISTANCE = 50
GREATEST_ITEM_COUNT = 7
GREATEST_K = 7


def is_capacity(number):
    """Whether a truck may have this capacity."""
    return 1 <= number <= GREATEST_CAPACITY


def has_item(instance, item):
    """Whether there is an item with this number."""
    return item < len(instance.goods)


def has_trip(trip):
    """Whether the manual plan may use a trip with this number."""
    return trip < TRIP_COUNT


def as_number(truth):
    """1 if it is so, otherwise 0."""
    return 1 if truth else 0


def is_refusal(answer):
    """Whether the answer is an error code; nothing else is negative."""
    return answer[0] < 0


def set_capacity(instance, numbers):
    """1: capacity -> old capacity."""
    capacity = numbers[0]
    if not is_capacity(capacity):
        return [OUT_OF_RANGE]
    old_capacity = instance.capacity
    instance.capacity = capacity
    return [old_capacity]


def add_item(instance, numbers):
    """2: weight, category, stop -> the number of the new item."""
    weight = numbers[0]
    category = numbers[1]
    stop = numbers[2]
    if not 1 <= weight <= GREATEST_WEIGHT or category >= CATEGORY_COUNT or stop >= STOP_COUNT:
        return [OUT_OF_RANGE]
    if len(instance.goods) == GREATEST_ITEM_COUNT:
        return [TOO_MANY_ITEMS]
    instance.goods.append(Item(weight, category, stop))
    instance.manual_plan.append(0)
    return [len(instance.goods) - 1]


def remove_item(instance, numbers):
    """3: item -> how many items remain."""
    item = numbers[0]
    if not has_item(instance, item):
        return [NOT_THERE]
    instance.goods.pop(item)
    instance.manual_plan.pop(item)
    return [len(instance.goods)]


def list_items(instance, numbers):
    """4: nothing -> how many items there are; the weight, category and stop of each."""
    answer = [len(instance.goods)]
    for item in instance.goods:
        answer.extend([item.weight, item.category, item.stop])
    return answer


def set_incompatible(instance, numbers):
    """5: category, category, 1 or 0 -> 1 if they were incompatible before, otherwise 0."""
    category_a = numbers[0]
    category_b = numbers[1]
    incompatible = numbers[2]
    if category_a >= CATEGORY_COUNT or category_b >= CATEGORY_COUNT or incompatible > 1:
        return [OUT_OF_RANGE]
    old_incompatible = instance.incompatible[category_a][category_b]
    instance.incompatible[category_a][category_b] = incompatible
    instance.incompatible[category_b][category_a] = incompatible
    return [old_incompatible]


def set_distance(instance, numbers):
    """6: stop, distance -> old distance."""
    stop = numbers[0]
    distance = numbers[1]
    if stop >= STOP_COUNT or distance > GREATEST_DISTANCE:
        return [OUT_OF_RANGE]
    old_distance = instance.distances[stop]
    instance.distances[stop] = distance
    return [old_distance]


def in_conflict(instance, numbers):
    """7: item, item -> 1 if they are in conflict, otherwise 0."""
    item_a = numbers[0]
    item_b = numbers[1]
    if not has_item(instance, item_a) or not has_item(instance, item_b):
        return [NOT_THERE]
    return [as_number(are_in_conflict(instance, item_a, item_b))]


def min_trips(instance, numbers):
    """8: nothing -> the minimum number of trips."""
    plan = fewest_trips_plan(instance)
    if plan is None:
        return [NO_VALID_PLAN]
    return [count_of_trips(plan)]


def first_minimal_plan(instance, numbers):
    """9: nothing -> how many items there are; the trip of each in the first plan with fewest trips."""
    plan = fewest_trips_plan(instance)
    if plan is None:
        return [NO_VALID_PLAN]
    return [len(plan)] + plan


def shortest_plan(instance, numbers):
    """10: k -> the length of the shortest plan for k; the trip of each item."""
    k = numbers[0]
    if k > GREATEST_K:
        return [OUT_OF_RANGE]
    plan = shortest_valid_plan(instance, k)
    if plan is None:
        return [NO_VALID_PLAN]
    return [length_of_plan(instance, plan)] + plan


def valid_plan_count(instance, numbers):
    """11: k -> how many valid canonical plans have trip numbers less than k."""
    k = numbers[0]
    if k > GREATEST_K:
        return [OUT_OF_RANGE]
    return [len(valid_plans(instance, k))]


def first_fit(instance, numbers):
    """12: nothing -> how many trips the first-fit plan has; the trip of each item."""
    plan = first_fit_plan(instance)
    return [count_of_trips(plan)] + plan


def lower_bounds(instance, numbers):
    """13: nothing -> the bound by weight; the size of the largest conflict set; its set number."""
    members = largest_conflict_set(instance)
    return [least_trips_by_weight(instance), len(members), number_of_set(members)]


def assign_item(instance, numbers):
    """14: item, trip -> old trip."""
    item = numbers[0]
    trip = numbers[1]
    if not has_item(instance, item):
        return [NOT_THERE]
    if not has_trip(trip):
        return [OUT_OF_RANGE]
    old_trip = instance.manual_plan[item]
    instance.manual_plan[item] = trip
    return [old_trip]


def get_plan(instance, numbers):
    """15: nothing -> how many items there are; the trip of each in the manual plan."""
    return [len(instance.manual_plan)] + instance.manual_plan


def is_plan_valid(instance, numbers):
    """16: nothing -> 1 if the manual plan is valid, otherwise 0."""
    return [as_number(is_valid_plan(instance, instance.manual_plan))]


def plan_length(instance, numbers):
    """17: nothing -> the length of the manual plan; how many of its trips have items."""
    return [length_of_plan(instance, instance.manual_plan), count_of_trips(instance.manual_plan)]


def trip_info(instance, numbers):
    """18: trip -> how many items it has; their weight; its length; 1 if it is valid, otherwise 0."""
    trip = numbers[0]
    if not has_trip(trip):
        return [NOT_THERE]
    members = members_of_trip(instance.manual_plan, trip)
    weight = weight_of_trip(instance, members)
    return [len(members), weight, length_of_trip(instance, members), as_number(is_valid_trip(instance, members))]


def loading_order(instance, numbers):
    """19: trip -> how many items it has; these, in the order in which they are loaded."""
    trip = numbers[0]
    if not has_trip(trip):
        return [NOT_THERE]
    members = members_of_trip(instance.manual_plan, trip)
    return [len(members)] + farthest_first(instance, members)


def use_shortest_plan(instance, numbers):
    """20: k -> the length of the shortest plan for k, which becomes the manual plan."""
    answer = shortest_plan(instance, numbers)
    if is_refusal(answer):
        return answer
    instance.manual_plan = answer[1:]
    return [answer[0]]


def remaining_capacity(instance, numbers):
    """21: trip -> the weight that it can carry besides its items."""
    trip = numbers[0]
    if not has_trip(trip):
        return [NOT_THERE]
    members = members_of_trip(instance.manual_plan, trip)
    return [max(0, instance.capacity - weight_of_trip(instance, members))]


def min_trips_with_item(instance, numbers):
    """22: weight, category, stop -> the minimum number of trips if the item were added."""
    changed = copy_of(instance)
    added = add_item(changed, numbers)
    return added if is_refusal(added) else min_trips(changed, [])


def min_trips_with_capacity(instance, numbers):
    """23: capacity -> the minimum number of trips if the capacity were this."""
    changed = copy_of(instance)
    replaced = set_capacity(changed, numbers)
    return replaced if is_refusal(replaced) else min_trips(changed, [])


def min_trips_without_item(instance, numbers):
    """24: item -> the minimum number of trips if the item were removed."""
    changed = copy_of(instance)
    removed = remove_item(changed, numbers)
    return removed if is_refusal(removed) else min_trips(changed, [])


def summary(instance, numbers):
    """25: nothing -> how many items; capacity; weight of all; how many incompatible pairs; the distances."""
    counts = [len(instance.goods), instance.capacity, total_weight(instance), count_of_incompatible_pairs(instance)]
    return counts + instance.distances


OPERATIONS = {
    1: set_capacity,
    2: add_item,
    3: remove_item,
    4: list_items,
    5: set_incompatible,
    6: set_distance,
    7: in_conflict,
    8: min_trips,
    9: first_minimal_plan,
    10: shortest_plan,
    11: valid_plan_count,
    12: first_fit,
    13: lower_bounds,
    14: assign_item,
    15: get_plan,
    16: is_plan_valid,
    17: plan_length,
    18: trip_info,
    19: loading_order,
    20: use_shortest_plan,
    21: remaining_capacity,
    22: min_trips_with_item,
    23: min_trips_with_capacity,
    24: min_trips_without_item,
    25: summary,
}


def operate(instance, call, numbers):
    """What the call, which is not create, answers on the instance."""
    return OPERATIONS[call](instance, numbers)
