"""A request: a list of calls, and the list of what they answer."""

from truckloads.instance import Instance
from truckloads.operations import OUT_OF_RANGE, is_capacity, operate

NO_INSTANCE = -11

CREATE = 0

# How many numbers follow each call's own number; place 0 is create's, place 25 summary's.
NUMBERS_BEHIND = (1, 1, 3, 1, 0, 3, 2, 2, 0, 0, 1, 1, 0, 0, 2, 0, 0, 0, 1, 1, 1, 1, 3, 1, 1, 0)


class Planner:
    """What the calls of one request are made on: it has no instance until create has succeeded."""

    def __init__(self):
        self.instance = None

    def create(self, capacity):
        """Put a new instance in the place of the one there is, if any."""
        if not is_capacity(capacity):
            return [OUT_OF_RANGE]
        self.instance = Instance(capacity)
        return [0]

    def answer(self, call, numbers):
        """The numbers that the call answers."""
        if call == CREATE:
            return self.create(numbers[0])
        if self.instance is None:
            return [NO_INSTANCE]
        return operate(self.instance, call, numbers)


def answers(calls):
    """Work off the calls on a new object; for each, how many numbers it answers, and these."""
    planner = Planner()
    written = []
    start = 0
    while start < len(calls):
        call = calls[start]
        end = start + 1 + NUMBERS_BEHIND[call]
        answered = planner.answer(call, calls[start + 1:end])
        written.append(len(answered))
        written.extend(answered)
        start = end
    return written
