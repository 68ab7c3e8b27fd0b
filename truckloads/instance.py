"""What an instance holds."""

CATEGORY_COUNT = 4
STOP_COUNT = 6


class Item:
    """One piece of goods."""

    def __init__(self, weight, category, stop):
        self.weight = weight
        self.category = category
        self.stop = stop


class Instance:
    """The trucks' capacity, the goods, what must not go together, the road and the manual plan.

    `goods` is the items in the order of their numbers. `incompatible` has a row for each
    category and in it a 0 or 1 for each category; it holds every pair in both orders.
    `manual_plan` has the trip of each item.
    """

    def __init__(self, capacity):
        self.capacity = capacity
        self.goods = []
        self.incompatible = [[0] * CATEGORY_COUNT for category in range(CATEGORY_COUNT)]
        self.distances = [0] * STOP_COUNT
        self.manual_plan = []
