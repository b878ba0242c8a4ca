"""[30]: what an order is."""

import unittest

from clearyard.orders import is_order
from things import MOST, NOT_AMOUNTS, NOT_NAMES, NOT_NUMBERS, NOT_TIMES, ODD, Case

ORDER = ("order", "ann", "bob", 5, 3, 2, 9)


class Orders(Case):

    def no_order(self, thing):
        self.assertIs(is_order(thing), False, repr(thing))

    def otherwise(self, at, others):
        for other in others:
            self.no_order((*ORDER[:at], other, *ORDER[at + 1:]))

    def test_orders(self):
        for order in (
            ORDER, ("order", "a", "abcdefgh", 1, 0, 0, 1), ("order", "bob", "ann", MOST, 9, 5, 6),
            ("order", "ann", "bob", 1, 9, 10 ** 39 - 2, 10 ** 39 - 1),
        ):
            self.assertIs(is_order(order), True)
            self.assertIs(is_order(thing=order), True)

    def test_things(self):
        for thing in [*ODD, list(ORDER), " ".join(map(str, ORDER)), dict(enumerate(ORDER)), (ORDER,), [ORDER], "ordered"]:
            self.no_order(thing)

    def test_lengths(self):
        for many in range(7):
            self.no_order(ORDER[:many])
            self.no_order(ORDER[many + 1:])
        for more in [*ODD, 10]:
            self.no_order((*ORDER, more))

    def test_word(self):
        self.otherwise(0, [thing for thing in ODD if thing != "order"] + ["orders", "Order", "ann", ("order",), ["order"]])

    def test_names(self):
        self.otherwise(1, NOT_NAMES + ["bob"])
        self.otherwise(2, NOT_NAMES + ["ann"])

    def test_amount(self):
        self.otherwise(3, NOT_AMOUNTS)

    def test_rank(self):
        self.otherwise(4, NOT_NUMBERS + [-1, 10, 10 ** 39])
        for rank in range(10):
            self.assertIs(is_order((*ORDER[:4], rank, 2, 9)), True)

    def test_times(self):
        self.otherwise(5, NOT_TIMES + [9, 10, 10 ** 39])
        self.otherwise(6, NOT_TIMES + [0, 1, 2])
        self.no_order(("order", "ann", "bob", 5, 3, -2, -1))
        self.no_order(("order", "ann", "bob", 5, 3, 0, 0))
        self.no_order(("order", "ann", "bob", 5, 3, False, True))


if __name__ == "__main__":
    unittest.main()
