"""The queue in which orders wait."""

from clearyard.errors import NoOrder, NoOrders, NoTime
from clearyard.orders import is_order
from clearyard.words import is_list, is_number, is_time


class Queue:
    """Orders by their numbers."""

    def __init__(self):
        self._orders = {}
        self._newest = 0

    def add(self, order):
        """One order more: its number."""
        if not is_order(order):
            raise NoOrders()
        self._newest += 1
        self._orders[self._newest] = order
        return self._newest

    def drop(self, number):
        """One order less."""
        self._look_for(number)
        del self._orders[number]

    def orders(self):
        """All orders by their numbers, rising."""
        return {number: self._orders[number] for number in sorted(self._orders)}

    def due(self, time):
        """The numbers of those that may be settled at time, by rank, then number."""
        _look_at_time(time)
        ranked = []
        for number, order in self._orders.items():
            rank, begin, until = order[4:]
            if begin <= time < until:
                ranked.append((rank, number))
        return [number for _, number in sorted(ranked)]

    def over(self, time):
        """The numbers of those for which it is too late at time, rising."""
        _look_at_time(time)
        return [number for number in sorted(self._orders) if self._orders[number][6] <= time]

    def settle(self, numbers):
        """Takes all of these orders away, or none."""
        if not is_list(numbers):
            raise NoOrders()
        ahead = {}
        for number in numbers:
            self._look_for(number)
            if number in ahead:
                raise NoOrder(number)
            ahead[number] = True
        for number in numbers:
            del self._orders[number]

    def stand_as(self, other):
        """From now on it stands as another one."""
        self._orders = dict(other._orders)
        self._newest = other._newest

    def _look_for(self, number):
        if not is_number(number) or number not in self._orders:
            raise NoOrder(number)


def _look_at_time(time):
    if not is_time(time):
        raise NoTime(time)
