"""Trips and plans of an instance: which are valid, how long they are, and which is best.

A trip is a list of item numbers, a plan a list with the trip number of each item.
"""

# A plan never needs more trips than there may be items, and the manual plan has no others.
TRIP_COUNT = 7


def are_in_conflict(instance, item_a, item_b):
    """Whether the two items must not be in the same trip; an item never conflicts with itself."""
    if item_a == item_b:
        return False
    first = instance.goods[item_a]
    second = instance.goods[item_b]
    if first.weight + second.weight > instance.capacity:
        return True
    return instance.incompatible[first.category][second.category] == 1


def weight_of_trip(instance, members):
    """The total weight of the items."""
    return sum([instance.goods[item].weight for item in members])


def is_valid_trip(instance, members):
    """Whether the items fit into one truck and no two of them are in conflict."""
    if weight_of_trip(instance, members) > instance.capacity:
        return False
    for item_a in members:
        for item_b in members:
            if are_in_conflict(instance, item_a, item_b):
                return False
    return True


def length_of_trip(instance, members):
    """Twice the greatest distance of the items' stops, or 0 without items."""
    return 2 * max([instance.distances[instance.goods[item].stop] for item in members], default=0)


def farthest_first(instance, members):
    """The items in the order of loading; items that are equally far stay in the order they are in."""
    return sorted(members, key=lambda item: -instance.distances[instance.goods[item].stop])


def members_of_trip(plan, trip):
    """The items that the plan assigns to the trip, in the order of their numbers."""
    return [item for item, chosen in enumerate(plan) if chosen == trip]


def trips_of_plan(plan):
    """The items of each trip, those without items too."""
    return [members_of_trip(plan, trip) for trip in range(TRIP_COUNT)]


def length_of_plan(instance, plan):
    """The sum of the lengths of the plan's trips."""
    return sum([length_of_trip(instance, members) for members in trips_of_plan(plan)])


def is_valid_plan(instance, plan):
    """Whether all trips of the plan are valid."""
    return all([is_valid_trip(instance, members) for members in trips_of_plan(plan)])


def count_of_trips(plan):
    """How many different trips the plan uses."""
    return len(set(plan))


def next_item_fits(instance, plan, trip):
    """Whether the trip stays valid with the item behind those that the plan assigns."""
    return is_valid_trip(instance, members_of_trip(plan, trip) + [len(plan)])


def plans_with_next_item(instance, plan, trip_limit):
    """The valid canonical plans that assign one item more than this one, smallest trip first."""
    longer_plans = []
    for trip in range(min(count_of_trips(plan) + 1, trip_limit)):
        if next_item_fits(instance, plan, trip):
            longer_plans.append(plan + [trip])
    return longer_plans


def valid_plans(instance, trip_limit):
    """All valid canonical plans with trip numbers less than the limit, in lexicographic order."""
    plans = [[]]
    # Weights are never negative, so every beginning of a valid plan is valid:
    # no plan is lost by dropping the beginnings that are not.
    for item in range(len(instance.goods)):
        longer_plans = []
        for plan in plans:
            longer_plans.extend(plans_with_next_item(instance, plan, trip_limit))
        plans = longer_plans
    return plans


# Both searches below keep the first of several equally good plans; as the plans come in
# lexicographic order, ties go to the smallest.


def fewest_trips_plan(instance):
    """The first valid canonical plan with the fewest trips, or None if no plan is valid."""
    return min(valid_plans(instance, TRIP_COUNT), key=count_of_trips, default=None)


def shortest_valid_plan(instance, trip_limit):
    """The first of the shortest valid canonical plans with trip numbers less than the limit, or None."""
    return min(
        valid_plans(instance, trip_limit),
        key=lambda plan: length_of_plan(instance, plan),
        default=None,
    )


def first_fitting_trip(instance, plan):
    """The smallest trip that stays valid with the next item, or a new one."""
    new_trip = count_of_trips(plan)
    for trip in range(new_trip):
        if next_item_fits(instance, plan, trip):
            return trip
    return new_trip


def first_fit_plan(instance):
    """The plan in which each item in turn goes to the first trip that stays valid with it."""
    plan = []
    for item in range(len(instance.goods)):
        # An item heavier than the capacity fits nowhere and nothing fits beside it,
        # so it gets a trip of its own without a rule of its own.
        plan.append(first_fitting_trip(instance, plan))
    return plan
