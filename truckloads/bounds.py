"""Lower bounds for the minimum number of trips, and conflict sets.

A set of items is a list of item numbers; its set number has bit i for item i.
"""

from truckloads.instance import total_weight
from truckloads.plans import are_in_conflict


def least_trips_by_weight(instance):
    """The weight of all items in units of the capacity, rounded up."""
    return (total_weight(instance) + instance.capacity - 1) // instance.capacity


def members_of_set(set_number):
    """The items of the set."""
    return [item for item in range(set_number.bit_length()) if (set_number >> item) & 1 == 1]


def number_of_set(members):
    """The set number of the items."""
    return sum([1 << item for item in members])


def is_conflict_set(instance, members):
    """Whether any two of the items are in conflict."""
    for item_a in members:
        for item_b in members:
            if item_a != item_b and not are_in_conflict(instance, item_a, item_b):
                return False
    return True


def largest_conflict_set(instance):
    """The items of the largest conflict set; of several, the one with the smallest set number."""
    largest = []
    for set_number in range(1 << len(instance.goods)):
        members = members_of_set(set_number)
        if len(members) > len(largest) and is_conflict_set(instance, members):
            largest = members
    return largest
