"""What an instance holds."""

CATEGORY_COUNT = 4
STOP_COUNT = 6


class Item:
    """One piece of goods."""

    def __init__(self, weight, category, stop):
        self.weight = weight
        self.category = category
        self.stop = stop


class Instance:
    """The trucks' capacity, the goods, what must not go together, the road and the manual plan.

    `goods` is the items in the order of their numbers. `incompatible` has a row for each
    category and in it a 0 or 1 for each category; it holds every pair in both orders.
    `manual_plan` has the trip of each item.
    """

    def __init__(self, capacity):
        self.capacity = capacity
        self.goods = []
        self.incompatible = [[0] * CATEGORY_COUNT for category in range(CATEGORY_COUNT)]
        self.distances = [0] * STOP_COUNT
        self.manual_plan = []


def copy_of(instance):
    """An instance that can be changed while this one stays as it is."""
    made = Instance(instance.capacity)
    # The goods themselves are shared: no operation changes an item.
    made.goods = list(instance.goods)
    made.incompatible = [list(row) for row in instance.incompatible]
    made.distances = list(instance.distances)
    made.manual_plan = list(instance.manual_plan)
    return made


def total_weight(instance):
    """The sum of the weights of all items."""
    return sum([item.weight for item in instance.goods])


def count_of_incompatible_pairs(instance):
    """How many pairs of categories are incompatible, whichever of the two is named first."""
    # Each row only up to its own category, as the rows hold every pair in both orders.
    return sum([sum(row[:category + 1]) for category, row in enumerate(instance.incompatible)])
