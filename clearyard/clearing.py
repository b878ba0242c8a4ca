"""Clearing: orders that wait at a ledger, and the rounds that settle them."""

from clearyard.bests import best
from clearyard.errors import NoHow, NoOrders, NotNow, NoTime
from clearyard.greatest import greatest, have_by_all
from clearyard.orders import is_order
from clearyard.queues import Queue
from clearyard.words import is_time

# How many of those that are due a round asks at most.
ASKED = {"great": 60, "best": 12}


class Clearing:
    """A queue at one ledger, its time, and all rounds."""

    def __init__(self, ledger):
        self._ledger = ledger
        self._queue = Queue()
        self._now = 0
        self._rounds = []

    def add(self, order):
        """One order more: its number."""
        if not is_order(order):
            raise NoOrders()
        # They are asked for the sake of the refusal alone.
        for name in order[1:3]:
            self._ledger.free(name)
        if order[6] <= self._now:
            raise NotNow()
        return self._queue.add(order)

    def drop(self, number):
        """One order less."""
        self._queue.drop(number)

    def on(self, time):
        """Time goes on, and the orders that are over are dropped: their numbers, rising."""
        if not is_time(time) or time < self._now:
            raise NoTime(time)
        self._now = time
        over = self._queue.over(time)
        self._queue.settle(over)
        return over

    def round(self, how):
        """Settles of those that are due what can go: their numbers, and the paper."""
        if how not in ("great", "best"):
            raise NoHow()
        asked = self._queue.due(self._now)[:ASKED[how]]
        queued = self._queue.orders()
        orders = [queued[number] for number in asked]
        free = self._free_of(orders)
        places, paper = greatest(free, orders) if how == "great" else best(free, orders)
        settled = [asked[place] for place in places]
        changes = _changes_of([orders[place] for place in places])
        if changes:
            self._ledger.net(changes)
        self._queue.settle(settled)
        self._rounds.append((self._now, how, asked, settled, free, paper))
        return list(settled), paper

    def rounds(self):
        """All rounds: (time, how, numbers asked, numbers settled, free ahead of it, paper)."""
        told = []
        for time, how, asked, settled, free, paper in self._rounds:
            told.append((time, how, list(asked), list(settled), dict(free), paper))
        return told

    def queue(self):
        """The orders that wait, by their numbers, rising."""
        return self._queue.orders()

    def now(self):
        """The time."""
        return self._now

    def stand_as(self, other):
        """From now on it stands as another one, at a ledger that stands as the other's."""
        self._queue.stand_as(other._queue)
        self._now = other._now
        self._rounds = list(other._rounds)

    def _free_of(self, orders):
        """What the names of orders have free, rising."""
        names = [name for order in orders for name in order[1:3]]
        return {name: self._ledger.free(name) for name in sorted(set(names))}


def _changes_of(orders):
    """What each name has more, or less, by orders, rising: noughts left out."""
    changes = have_by_all({}, orders)
    return [(name, changes[name]) for name in sorted(changes) if changes[name] != 0]
