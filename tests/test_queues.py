"""[30]: the queue in which orders wait."""

import random
import unittest

from clearyard.errors import NoOrder, NoOrders, NoTime
from clearyard.queues import Queue
from things import NOT_COUNTS, NOT_LISTS, NOT_TIMES, ODD, Case


def an_order(rank=0, begin=0, until=9, amount=5):
    return ("order", "ann", "bob", amount, rank, begin, until)


class Queued(Case):

    def setUp(self):
        self.queue = Queue()

    def kept(self, refusal, fields, call, *parts, **named):
        """That the call is refused, and nothing is changed by it."""
        before = self.queue.orders()
        self.refused(refusal, fields, call, *parts, **named)
        self.assertEqual(self.queue.orders(), before)

    def fill(self, *orders):
        for order in orders:
            self.queue.add(order)


class AddAndDrop(Queued):

    def test_numbers(self):
        self.assertEqual(self.queue.orders(), {})
        self.assertEqual([self.queue.add(an_order()), self.queue.add(order=an_order(3))], [1, 2])
        self.assertEqual(self.queue.orders(), {1: an_order(), 2: an_order(3)})

    def test_no_number_twice(self):
        self.fill(an_order(), an_order(), an_order())
        self.assertIsNone(self.queue.drop(3))
        self.assertEqual(self.queue.add(an_order(1)), 4)
        self.queue.settle([4, 1, 2])
        self.assertEqual(self.queue.add(an_order(2)), 5)
        self.queue.drop(number=5)
        self.kept(NoOrders, {}, self.queue.add, None)
        self.assertEqual(self.queue.add(an_order(2)), 6)
        self.assertEqual(self.queue.orders(), {6: an_order(2)})

    def test_no_order_to_add(self):
        self.fill(an_order())
        for thing in [*ODD, list(an_order()), an_order()[:6], (*an_order(), 1), an_order(10), an_order(0, 9, 9), an_order(amount=0)]:
            self.kept(NoOrders, {}, self.queue.add, thing)

    def test_no_order_to_drop(self):
        self.fill(an_order(), an_order(), an_order())
        self.queue.drop(1)
        self.queue.settle([2])
        for number in [*NOT_COUNTS, 1, 2, 4, 10 ** 39]:
            self.kept(NoOrder, {"number": number}, self.queue.drop, number)

    def test_told_is_the_askers_own(self):
        self.fill(an_order(), an_order())
        told = self.queue.orders()
        told[1] = None
        told[3] = an_order()
        self.assertEqual(self.queue.orders(), {1: an_order(), 2: an_order()})

    def test_orders_rising(self):
        self.fill(an_order(5), an_order(0), an_order(3), an_order(9))
        self.queue.drop(2)
        self.fill(an_order(1))
        self.assertEqual(list(self.queue.orders()), [1, 3, 4, 5])


class DueAndOver(Queued):

    def test_around_begin_and_until(self):
        self.fill(an_order(0, 3, 5))
        self.assertEqual([self.queue.due(time) for time in range(7)], [[], [], [], [1], [1], [], []])
        self.assertEqual([self.queue.over(time) for time in range(7)], [[], [], [], [], [], [1], [1]])
        self.assertEqual((self.queue.due(10 ** 39), self.queue.over(10 ** 39)), ([], [1]))
        self.assertEqual((self.queue.due(time=3), self.queue.over(time=5)), ([1], [1]))
        self.assertEqual(self.queue.orders(), {1: an_order(0, 3, 5)})

    def test_due_by_rank_then_number(self):
        self.fill(an_order(5), an_order(0), an_order(5), an_order(9), an_order(0), an_order(1), an_order(0, 1))
        self.assertEqual(self.queue.due(0), [2, 5, 6, 1, 3, 4])
        self.assertEqual(self.queue.due(1), [2, 5, 7, 6, 1, 3, 4])

    def test_over_by_number(self):
        self.fill(an_order(5, 0, 4), an_order(0, 0, 3), an_order(9, 0, 5), an_order(3, 0, 1))
        self.assertEqual([self.queue.over(time) for time in range(6)], [[], [4], [4], [2, 4], [1, 2, 4], [1, 2, 3, 4]])

    def test_of_many(self):
        for seed in range(30):
            chance = random.Random(seed)
            queue = Queue()
            for _ in range(20):
                begin = chance.randint(0, 8)
                queue.add(an_order(chance.randint(0, 9), begin, begin + chance.randint(1, 5)))
            for number in chance.sample(range(1, 21), 6):
                queue.drop(number)
            orders = queue.orders()
            for time in range(15):
                due = [number for number, order in orders.items() if order[5] <= time < order[6]]
                self.assertEqual(queue.due(time), sorted(due, key=lambda number: (orders[number][4], number)))
                self.assertEqual(queue.over(time), [number for number, order in orders.items() if order[6] <= time])

    def test_no_time(self):
        self.fill(an_order())
        for time in NOT_TIMES:
            self.kept(NoTime, {"time": time}, self.queue.due, time)
            self.kept(NoTime, {"time": time}, self.queue.over, time)

    def test_told_is_the_askers_own(self):
        self.fill(an_order(), an_order(0, 0, 1))
        self.queue.due(0).clear()
        self.queue.over(5).clear()
        self.assertEqual((self.queue.due(0), self.queue.over(5)), ([1, 2], [2]))


class Settle(Queued):

    def setUp(self):
        Queued.setUp(self)
        self.fill(*[an_order(rank) for rank in range(5)])

    def test_some(self):
        self.assertIsNone(self.queue.settle([4, 1]))
        self.assertEqual(self.queue.orders(), {2: an_order(1), 3: an_order(2), 5: an_order(4)})
        self.queue.settle(numbers=(5,))
        self.assertEqual(list(self.queue.orders()), [2, 3])
        self.queue.settle([3, 2])
        self.assertEqual(self.queue.orders(), {})

    def test_none(self):
        before = self.queue.orders()
        self.queue.settle([])
        self.queue.settle(())
        self.assertEqual(self.queue.orders(), before)

    def test_no_list(self):
        for thing in NOT_LISTS:
            self.kept(NoOrders, {}, self.queue.settle, thing)

    def test_the_first_that_is_not_there_or_is_twice(self):
        for number in [*NOT_COUNTS, 6, 10 ** 39]:
            self.kept(NoOrder, {"number": number}, self.queue.settle, [number])
            self.kept(NoOrder, {"number": number}, self.queue.settle, (1, number, 7, 1))
            self.kept(NoOrder, {"number": 7}, self.queue.settle, [1, 7, number, 1])
            self.kept(NoOrder, {"number": 1}, self.queue.settle, [2, 1, 1, number])
        self.kept(NoOrder, {"number": 2}, self.queue.settle, [2, 1, 2, 1])
        self.kept(NoOrder, {"number": 1}, self.queue.settle, [2, 1, 1, 2])
        self.queue.drop(3)
        self.kept(NoOrder, {"number": 3}, self.queue.settle, [1, 2, 3, 4])

    def test_handed_in_stays(self):
        numbers = [4, 1]
        self.queue.settle(numbers)
        self.assertEqual(numbers, [4, 1])


if __name__ == "__main__":
    unittest.main()
