"""[10]: the ledger's deeds, their rows, and what they refuse."""

import unittest

from clearyard.errors import NoAmount, NoName, NoPot, Short
from clearyard.ledger import Ledger
from things import MOST, NOT_AMOUNTS, NOT_COUNTS, NOT_LISTS, NOT_NAMES, NOT_NUMBERS, Case

NOT_PAIRS = [
    "ab", ["ann", 1], [], ["ann"], (), ("ann",), ("ann", 1, 1), {"ann": 1}, {"ann": 1, "bob": 1}, None, True, False, 1, 0, "",
]
SPOILED_NAMES = NOT_NAMES + ["nobody", "an"]


def picture(ledger):
    """All that can be seen of a ledger, the next pot's number, too."""
    twin = ledger.twin()
    twin.enter("watcher")
    twin.put("watcher", 1)
    number = twin.lock([("watcher", 1)])
    frees = {name: ledger.free(name) for name in ledger.names()}
    return repr((frees, ledger.pots(), ledger.total(), ledger.rows(), len(ledger), number))


def led():
    """A ledger with four accounts and one pot of 7."""
    ledger = Ledger()
    for name, amount in (("bob", 20), ("ann", 10), ("dan", 5)):
        ledger.enter(name)
        ledger.put(name, amount)
    ledger.enter("cid")
    ledger.lock([("bob", 4), ("ann", 3)])
    return ledger


class Deeds(Case):

    def setUp(self):
        self.ledger = led()

    def written(self, row, told=None, **frees):
        """That row is the last one, and names have just so much free."""
        self.assertEqual(repr(self.ledger.rows()[-1]), repr(row))
        for name, free in frees.items():
            self.assertEqual(self.ledger.free(name), free)

    def kept(self, refusal, fields, call, *parts, **named):
        """That the call is refused, and nothing is changed by it."""
        before = picture(self.ledger)
        self.refused(refusal, fields, call, *parts, **named)
        self.assertEqual(picture(self.ledger), before)


class Enter(Deeds):

    def test_row(self):
        for name in ("eve", "a", "abcdefgh"):
            self.assertIsNone(self.ledger.enter(name))
            self.written(("enter", ((name, 0),)), **{name: 0})
        self.ledger.enter(name="zoe")
        self.written(("enter", (("zoe", 0),)), zoe=0)

    def test_refusals(self):
        for name in NOT_NAMES + ["ann", "bob", "cid"]:
            self.kept(NoName, {"name": name}, self.ledger.enter, name)
        self.kept(NoName, {"name": "abcdefghi"}, self.ledger.enter, "abcdefghi")


class PutAndTake(Deeds):

    def test_put(self):
        self.assertIsNone(self.ledger.put("ann", 1))
        self.written(("put", ((None, -1), ("ann", 1))), ann=8)
        self.ledger.put(amount=MOST, name="ann")
        self.written(("put", ((None, -MOST), ("ann", MOST))), ann=8 + MOST)
        self.ledger.put("ann", MOST)
        self.written(("put", ((None, -MOST), ("ann", MOST))), ann=8 + 2 * MOST)
        self.assertEqual(self.ledger.total(), 36 + 2 * MOST)

    def test_take(self):
        self.assertIsNone(self.ledger.take("ann", 1))
        self.written(("take", (("ann", -1), (None, 1))), ann=6)
        self.ledger.take(amount=6, name="ann")
        self.written(("take", (("ann", -6), (None, 6))), ann=0)
        self.assertEqual(self.ledger.total(), 28)

    def test_take_much(self):
        self.ledger.put("ann", MOST)
        self.ledger.take("ann", MOST)
        self.written(("take", (("ann", -MOST), (None, MOST))), ann=7)

    def test_names_refused(self):
        for call in (self.ledger.put, self.ledger.take):
            for name in SPOILED_NAMES:
                self.kept(NoName, {"name": name}, call, name, 1)
                self.kept(NoName, {"name": name}, call, name, 0)
                self.kept(NoName, {"name": name}, call, amount=None, name=name)

    def test_amounts_refused(self):
        self.ledger.put("ann", MOST)
        self.ledger.put("ann", MOST)
        for call in (self.ledger.put, self.ledger.take):
            for amount in NOT_AMOUNTS:
                self.kept(NoAmount, {}, call, "ann", amount)
                self.kept(NoAmount, {}, call, "cid", amount)

    def test_short(self):
        self.kept(Short, {"name": "ann"}, self.ledger.take, "ann", 8)
        self.kept(Short, {"name": "cid"}, self.ledger.take, "cid", 1)
        self.kept(Short, {"name": "ann"}, self.ledger.take, "ann", MOST)


class Move(Deeds):

    def test_row(self):
        self.assertIsNone(self.ledger.move("bob", "ann", 5))
        self.written(("move", (("bob", -5), ("ann", 5))), bob=11, ann=12)
        self.ledger.move(amount=12, other="cid", one="ann")
        self.written(("move", (("ann", -12), ("cid", 12))), ann=0, cid=12)
        self.assertEqual(self.ledger.total(), 35)

    def test_much(self):
        self.ledger.put("cid", MOST)
        self.ledger.move("cid", "ann", MOST)
        self.written(("move", (("cid", -MOST), ("ann", MOST))), cid=0, ann=7 + MOST)

    def test_refusals_in_order(self):
        move = self.ledger.move
        for name in SPOILED_NAMES:
            self.kept(NoName, {"name": name}, move, name, "bob", 1)
            self.kept(NoName, {"name": name}, move, name, name, 0)
            self.kept(NoName, {"name": name}, move, name, None, 0)
            self.kept(NoName, {"name": name}, move, "ann", name, 1)
            self.kept(NoName, {"name": name}, move, "ann", name, 0)
            self.kept(NoName, {"name": name}, move, "cid", name, 1)
        self.kept(NoName, {"name": "ann"}, move, "ann", "ann", 1)
        self.kept(NoName, {"name": "ann"}, move, "ann", "ann", 0)
        self.kept(NoName, {"name": "ann"}, move, "ann", "ann", 99)
        for amount in NOT_AMOUNTS:
            self.kept(NoAmount, {}, move, "ann", "bob", amount)
            self.kept(NoAmount, {}, move, "cid", "bob", amount)
        self.kept(Short, {"name": "ann"}, move, "ann", "bob", 8)
        self.kept(Short, {"name": "cid"}, move, "cid", "bob", 1)


class Lock(Deeds):

    def test_row(self):
        self.assertEqual(self.ledger.lock([("dan", 1), ("ann", 2), ("bob", 3)]), 2)
        self.written(("lock", (("ann", -2), ("bob", -3), ("dan", -1), (2, 6))), ann=5, bob=13, dan=4)
        self.assertEqual(self.ledger.lock(parts=(("ann", 5),)), 3)
        self.written(("lock", (("ann", -5), (3, 5))), ann=0)
        self.ledger.put("cid", MOST)
        self.assertEqual(self.ledger.lock([("dan", 1), ("cid", MOST), ("bob", 1)]), 4)
        self.written(("lock", (("bob", -1), ("cid", -MOST), ("dan", -1), (4, MOST + 2))), cid=0)
        self.assertEqual(self.ledger.total(), 35 + MOST)
        self.assertEqual(self.ledger.pots(), {1: 7, 2: 6, 3: 5, 4: MOST + 2})

    def test_four(self):
        self.ledger.put("cid", 1)
        self.assertEqual(self.ledger.lock([("dan", 5), ("cid", 1), ("bob", 16), ("ann", 7)]), 2)
        self.written(("lock", (("ann", -7), ("bob", -16), ("cid", -1), ("dan", -5), (2, 29))), ann=0, bob=0, cid=0, dan=0)

    def test_no_number_twice(self):
        self.ledger.share(1, [("ann", 7)])
        self.assertEqual(self.ledger.lock([("ann", 1)]), 2)
        self.kept(Short, {"name": "cid"}, self.ledger.lock, [("cid", 1)])
        self.assertEqual(self.ledger.lock([("ann", 1)]), 3)
        self.ledger.share(3, [("ann", 1)])
        self.assertEqual(self.ledger.lock([("ann", 1)]), 4)
        self.assertEqual(list(self.ledger.pots()), [2, 4])

    def test_no_list_of_so_many_pairs(self):
        for parts in [*NOT_LISTS, [], (), [("ann", 1), ("bob", 1), ("cid", 1), ("dan", 1), ("eve", 1)]]:
            self.kept(NoAmount, {}, self.ledger.lock, parts)
        self.ledger.enter("eve")
        for name in ("cid", "eve"):
            self.ledger.put(name, 1)
        five = [(name, 1) for name in self.ledger.names()]
        self.kept(NoAmount, {}, self.ledger.lock, five)
        self.kept(NoAmount, {}, self.ledger.lock, tuple(five))
        for pair in NOT_PAIRS:
            self.kept(NoAmount, {}, self.ledger.lock, [pair])
            self.kept(NoAmount, {}, self.ledger.lock, [("nobody", 0), pair])
            self.kept(NoAmount, {}, self.ledger.lock, (pair, ("ann", 1)))

    def test_part_by_part(self):
        for name in SPOILED_NAMES:
            self.kept(NoName, {"name": name}, self.ledger.lock, [(name, 1)])
            self.kept(NoName, {"name": name}, self.ledger.lock, [(name, 0), ("nobody", 1)])
            self.kept(NoName, {"name": name}, self.ledger.lock, [("ann", 99), (name, 0)])
            self.kept(NoAmount, {}, self.ledger.lock, [("ann", 0), (name, 0)])
        self.kept(NoName, {"name": "ann"}, self.ledger.lock, [("ann", 1), ("ann", 1)])
        self.kept(NoName, {"name": "ann"}, self.ledger.lock, [("ann", 1), ("bob", 1), ("ann", 0)])
        self.kept(NoAmount, {}, self.ledger.lock, [("ann", 1), ("bob", 0), ("ann", 1)])
        for amount in NOT_AMOUNTS:
            self.kept(NoAmount, {}, self.ledger.lock, [("ann", amount)])
            self.kept(NoAmount, {}, self.ledger.lock, [("cid", 1), ("ann", amount)])

    def test_short_of_the_first_as_they_stand(self):
        self.kept(Short, {"name": "dan"}, self.ledger.lock, [("bob", 1), ("dan", 6), ("ann", 8)])
        self.kept(Short, {"name": "ann"}, self.ledger.lock, [("ann", 8), ("dan", 6)])
        self.kept(Short, {"name": "cid"}, self.ledger.lock, [("cid", 1)])


class Share(Deeds):

    def test_row(self):
        self.assertIsNone(self.ledger.share(1, [("dan", 1), ("cid", 2)]))
        self.written(("share", ((1, -3), ("cid", 2), ("dan", 1))), cid=2, dan=6)
        self.assertEqual(self.ledger.pots(), {1: 4})
        self.ledger.share(parts=(("bob", 1), ("ann", 2)), number=1)
        self.written(("share", ((1, -3), ("ann", 2), ("bob", 1))), ann=9, bob=17)
        self.ledger.share(1, (("ann", 1),))
        self.written(("share", ((1, -1), ("ann", 1))), ann=10)
        self.assertEqual(self.ledger.pots(), {})
        self.assertEqual(self.ledger.total(), 35)

    def test_just_all_and_four(self):
        self.ledger.share(1, [("dan", 1), ("cid", 2), ("bob", 3), ("ann", 1)])
        self.written(("share", ((1, -7), ("ann", 1), ("bob", 3), ("cid", 2), ("dan", 1))), ann=8, bob=19, cid=2, dan=6)
        self.assertEqual(self.ledger.pots(), {})

    def test_numbers_of_any_size(self):
        for name in ("ann", "bob", "cid"):
            self.ledger.put(name, MOST)
        number = self.ledger.lock([("ann", MOST), ("bob", MOST), ("cid", MOST)])
        self.kept(NoAmount, {}, self.ledger.share, number, [("dan", 3 * MOST + 1)])
        self.kept(NoAmount, {}, self.ledger.share, number, [("dan", 10 ** 39)])
        self.ledger.share(number, [("dan", MOST + 1)])
        self.written(("share", ((number, -MOST - 1), ("dan", MOST + 1))), dan=6 + MOST)
        self.ledger.share(number, [("dan", 2 * MOST - 1)])
        self.written(("share", ((number, 1 - 2 * MOST), ("dan", 2 * MOST - 1))), dan=5 + 3 * MOST)
        self.assertEqual(self.ledger.pots(), {1: 7})

    def test_no_pot(self):
        for number in [*NOT_COUNTS, 2, 10 ** 39, "ann"]:
            self.kept(NoPot, {"number": number}, self.ledger.share, number, [("ann", 1)])
            self.kept(NoPot, {"number": number}, self.ledger.share, number, None)
        self.ledger.share(1, [("ann", 7)])
        self.kept(NoPot, {"number": 1}, self.ledger.share, 1, [("ann", 1)])
        self.kept(NoPot, {"number": 1}, self.ledger.share, 1, [])

    def test_no_list_of_so_many_pairs(self):
        self.ledger.enter("eve")
        five = [(name, 1) for name in self.ledger.names()]
        for parts in [*NOT_LISTS, [], (), five, tuple(five)]:
            self.kept(NoAmount, {}, self.ledger.share, 1, parts)
        for pair in NOT_PAIRS:
            self.kept(NoAmount, {}, self.ledger.share, 1, [pair])
            self.kept(NoAmount, {}, self.ledger.share, 1, [("nobody", 0), pair])

    def test_part_by_part(self):
        share = self.ledger.share
        for name in SPOILED_NAMES:
            self.kept(NoName, {"name": name}, share, 1, [(name, 1)])
            self.kept(NoName, {"name": name}, share, 1, [(name, 0)])
            self.kept(NoName, {"name": name}, share, 1, [("ann", 99), (name, 1)])
            self.kept(NoAmount, {}, share, 1, [("ann", 0), (name, 1)])
        self.kept(NoName, {"name": "ann"}, share, 1, [("ann", 1), ("ann", 1)])
        self.kept(NoName, {"name": "bob"}, share, 1, [("bob", 9), ("ann", 1), ("bob", 1)])
        for amount in NOT_COUNTS:
            self.kept(NoAmount, {}, share, 1, [("ann", amount)])
            self.kept(NoAmount, {}, share, 1, [("bob", 1), ("ann", amount)])

    def test_more_than_is_in_it(self):
        self.kept(NoAmount, {}, self.ledger.share, 1, [("ann", 8)])
        self.kept(NoAmount, {}, self.ledger.share, 1, [("ann", 4), ("bob", 4)])
        self.ledger.share(1, [("ann", 3), ("bob", 2)])
        self.kept(NoAmount, {}, self.ledger.share, 1, [("ann", 3)])
        self.ledger.share(1, [("ann", 2)])
        self.written(("share", ((1, -2), ("ann", 2))), ann=12)


class Net(Deeds):

    def test_row(self):
        self.assertIsNone(self.ledger.net([("cid", 3), ("bob", -16), ("dan", 0), ("ann", 13)]))
        self.written(("net", (("ann", 13), ("bob", -16), ("cid", 3))), ann=20, bob=0, cid=3, dan=5)
        self.ledger.net(parts=(("dan", -5), ("ann", 5)))
        self.written(("net", (("ann", 5), ("dan", -5))), ann=25, dan=0)
        self.assertEqual(self.ledger.total(), 35)

    def test_rows_without_changes(self):
        for parts in ([], (), [("ann", 0)], [("bob", 0), ("ann", 0)]):
            before = len(self.ledger)
            self.ledger.net(parts)
            self.written(("net", ()), ann=7, bob=16)
            self.assertEqual(len(self.ledger), before + 1)

    def test_numbers_beyond_amounts(self):
        for _ in range(3):
            self.ledger.put("ann", MOST)
        self.ledger.net([("ann", -3 * MOST), ("bob", 3 * MOST)])
        self.written(("net", (("ann", -3 * MOST), ("bob", 3 * MOST))), ann=7, bob=16 + 3 * MOST)

    def test_how_many(self):
        names = [one + other for one in "abcdefghijk" for other in "abcdefghijk"]
        self.assertEqual(len(names), 121)
        for name in names:
            self.ledger.enter(name)
            self.ledger.put(name, 1)
        signs = [(name, 1 - 2 * (at % 2)) for at, name in enumerate(names)]
        self.kept(NoAmount, {}, self.ledger.net, [*signs[:-1], ("kk", 0)])
        self.kept(NoAmount, {}, self.ledger.net, [(name, 0) for name in names])
        self.ledger.net(signs[119::-1])
        self.written(("net", tuple(signs[:120])), aa=2, ab=0)

    def test_no_list_of_so_many_pairs(self):
        for parts in NOT_LISTS:
            self.kept(NoAmount, {}, self.ledger.net, parts)
        self.kept(NoAmount, {}, self.ledger.net, [("nobody", 0)] * 121)
        for pair in NOT_PAIRS:
            self.kept(NoAmount, {}, self.ledger.net, [pair])
            self.kept(NoAmount, {}, self.ledger.net, [("nobody", 0), pair])

    def test_part_by_part(self):
        net = self.ledger.net
        for name in SPOILED_NAMES:
            self.kept(NoName, {"name": name}, net, [(name, 0)])
            self.kept(NoName, {"name": name}, net, [(name, None)])
            self.kept(NoName, {"name": name}, net, [("ann", 1), (name, 1)])
            self.kept(NoAmount, {}, net, [("ann", None), (name, 1)])
        self.kept(NoName, {"name": "ann"}, net, [("ann", 1), ("ann", -1)])
        self.kept(NoName, {"name": "ann"}, net, [("ann", 0), ("bob", 5), ("ann", 0)])
        for number in NOT_NUMBERS:
            self.kept(NoAmount, {}, net, [("ann", number)])
            self.kept(NoAmount, {}, net, [("bob", 1), ("ann", number)])

    def test_sums(self):
        self.kept(NoAmount, {}, self.ledger.net, [("ann", 1)])
        self.kept(NoAmount, {}, self.ledger.net, [("ann", -99)])
        self.kept(NoAmount, {}, self.ledger.net, [("ann", -99), ("bob", 98)])
        self.kept(NoAmount, {}, self.ledger.net, [("ann", 1), ("bob", 0), ("cid", 1)])

    def test_short_of_the_first_rising(self):
        self.kept(Short, {"name": "bob"}, self.ledger.net, [("dan", -6), ("bob", -17), ("ann", 23)])
        self.kept(Short, {"name": "ann"}, self.ledger.net, [("bob", -17), ("ann", -8), ("cid", 25)])
        self.kept(Short, {"name": "cid"}, self.ledger.net, [("cid", -1), ("ann", 1)])


if __name__ == "__main__":
    unittest.main()
