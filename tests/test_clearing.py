"""[60], [2] (a), (b): the clearing, its rounds, and what they write at the ledger."""

import copy
import random
import unittest

from clearyard.bests import best, shows_best
from clearyard.clearing import Clearing
from clearyard.errors import NoHow, NoName, NoOrder, NoOrders, NotNow, NoTime, YardError
from clearyard.greatest import greatest, shows_greatest
from clearyard.ledger import Ledger, ledger_of
from things import MOST, NOT_COUNTS, NOT_LISTS, NOT_NAMES, NOT_TIMES, ODD, Case

NAMES = ("ann", "bob", "cid")


def pays(payer, payee, amount, rank=0, begin=0, until=9):
    return ("order", payer, payee, amount, rank, begin, until)


def led(names=NAMES, free=20):
    ledger = Ledger()
    for name in names:
        ledger.enter(name)
        if free:
            ledger.put(name, free)
    return ledger


class Cleared(Case):

    def setUp(self):
        self.ledger = led()
        self.clearing = Clearing(self.ledger)

    def frees(self):
        return tuple(self.ledger.free(name) for name in NAMES)

    def stand(self):
        return copy.deepcopy((self.ledger.rows(), self.clearing.queue(), self.clearing.rounds(), self.clearing.now(), self.frees()))

    def kept(self, refusal, fields, call, *parts, **named):
        """That the call is refused, and nothing is changed by it."""
        before = self.stand()
        self.refused(refusal, fields, call, *parts, **named)
        self.assertEqual(self.stand(), before)

    def add(self, *orders):
        return [self.clearing.add(order) for order in orders]


class Queued(Cleared):

    def test_add_and_drop(self):
        self.assertEqual(self.clearing.queue(), {})
        one, other = pays("ann", "bob", 5), pays("bob", "ann", 6, 3, 2, 4)
        self.assertEqual(self.clearing.add(one), 1)
        self.assertEqual(self.clearing.add(order=other), 2)
        self.assertEqual(self.clearing.add(one), 3)
        self.assertEqual(self.clearing.queue(), {1: one, 2: other, 3: one})
        self.assertIsNone(self.clearing.drop(1))
        self.assertEqual(self.clearing.queue(), {2: other, 3: one})
        self.assertIsNone(self.clearing.drop(number=3))
        self.assertEqual(self.clearing.add(one), 4)
        self.assertEqual(list(self.clearing.queue()), [2, 4])
        self.assertEqual(self.ledger.rows(), led().rows())

    def test_by_name_at_the_start(self):
        clearing = Clearing(ledger=self.ledger)
        self.assertEqual((clearing.now(), clearing.queue(), clearing.rounds()), (0, {}, []))
        self.assertEqual(clearing.add(pays("ann", "bob", 5)), 1)
        clearing.round("great")
        self.assertEqual(self.frees(), (15, 25, 20))

    def test_refusals_of_add_in_order(self):
        add = self.clearing.add
        self.clearing.on(4)
        for thing in [*ODD, *NOT_LISTS, list(pays("ann", "bob", 5)), pays("zoe", "zoe", 5), pays("zoe", "bob", 0), pays("zoe", "bob", MOST + 1)]:
            self.kept(NoOrders, {}, add, thing)
        for name in NOT_NAMES:
            self.kept(NoOrders, {}, add, pays(name, "bob", 5))
            self.kept(NoOrders, {}, add, pays("zoe", name, 5))
        self.kept(NoOrders, {}, add, pays("zoe", "bob", 5, 10))
        self.kept(NoOrders, {}, add, pays("zoe", "bob", 5, 0, 4, 4))
        self.kept(NoName, {"name": "zoe"}, add, pays("zoe", "yan", 5))
        self.kept(NoName, {"name": "zoe"}, add, pays("zoe", "bob", 5, 0, 0, 4))
        self.kept(NoName, {"name": "yan"}, add, pays("ann", "yan", 5))
        self.kept(NoName, {"name": "yan"}, add, order=pays("ann", "yan", 5, 0, 0, 4))
        for until in (1, 3, 4):
            self.kept(NotNow, {}, add, pays("ann", "bob", 5, 0, 0, until))
        self.assertEqual(add(pays("ann", "bob", 5, 0, 0, 5)), 1)
        self.assertEqual(add(pays("ann", "bob", 5, 0, 100, 101)), 2)
        self.assertEqual(add(pays("ann", "bob", MOST)), 3)

    def test_no_order(self):
        self.add(*[pays("ann", "bob", 1)] * 3)
        self.clearing.drop(1)
        self.clearing.round("great")
        self.add(pays("ann", "bob", 1, 0, 5, 9))
        for number in [*NOT_COUNTS, 1, 2, 3, 5, 10 ** 39]:
            self.kept(NoOrder, {"number": number}, self.clearing.drop, number)
        self.clearing.drop(4)

    def test_told_is_the_askers_own(self):
        self.add(pays("ann", "bob", 5))
        told = self.clearing.queue()
        told[1] = told[2] = None
        self.assertEqual(self.clearing.queue(), {1: pays("ann", "bob", 5)})


class On(Cleared):

    def test_now(self):
        self.assertEqual(self.clearing.now(), 0)
        for time in (0, 1, 1, 5, 10 ** 39):
            self.assertEqual(self.clearing.on(time), [])
            self.assertEqual(self.clearing.now(), time)
        self.assertEqual(self.ledger.rows(), led().rows())

    def test_no_time(self):
        self.clearing.on(time=4)
        self.add(pays("ann", "bob", 5, 0, 0, 5))
        for time in [*NOT_TIMES, 0, 3]:
            self.kept(NoTime, {"time": time}, self.clearing.on, time)
        self.assertEqual(self.clearing.on(4), [])

    def test_those_that_are_over_are_dropped_rising(self):
        self.add(*[pays("ann", "bob", 1, 9 - at, 0, until) for at, until in enumerate((5, 3, 9, 3, 5, 8, 4))])
        self.assertEqual(self.clearing.on(2), [])
        self.assertEqual(self.clearing.on(3), [2, 4])
        self.assertEqual(list(self.clearing.queue()), [1, 3, 5, 6, 7])
        told = self.clearing.on(8)
        self.assertEqual(told, [1, 5, 6, 7])
        told.append(3)
        self.assertEqual(self.clearing.queue(), {3: pays("ann", "bob", 1, 7, 0, 9)})
        self.assertEqual(self.clearing.on(9), [3])
        self.assertEqual(self.clearing.on(9), [])
        self.assertEqual(self.ledger.rows(), led().rows())
        self.assertEqual(self.add(pays("ann", "bob", 1, 0, 0, 10)), [8])


class Rounds(Cleared):

    def test_great(self):
        self.add(pays("ann", "bob", 15), pays("bob", "cid", 40), pays("bob", "cid", 30), pays("cid", "ann", 1))
        free = {"ann": 20, "bob": 20, "cid": 20}
        orders = [self.clearing.queue()[number] for number in (1, 2, 3, 4)]
        told = self.clearing.round("great")
        self.assertEqual(told, ([1, 4], greatest(free, orders)[1]))
        self.assertEqual([told.__class__, *[part.__class__ for part in told]], [tuple, list, tuple])
        self.assertEqual(self.ledger.rows()[-1], ("net", (("ann", -14), ("bob", 15), ("cid", -1))))
        self.assertEqual(list(self.clearing.queue()), [2, 3])
        self.assertEqual(self.clearing.rounds(), [(0, "great", [1, 2, 3, 4], [1, 4], free, told[1])])

    def test_best(self):
        self.add(pays("ann", "bob", 15), pays("bob", "cid", 40), pays("bob", "cid", 30), pays("cid", "ann", 1))
        free = {"ann": 20, "bob": 20, "cid": 20}
        orders = [self.clearing.queue()[number] for number in (1, 2, 3, 4)]
        told = self.clearing.round(how="best")
        self.assertEqual(told, ([1, 3, 4], best(free, orders)[1]))
        self.assertEqual([told.__class__, *[part.__class__ for part in told]], [tuple, list, tuple])
        self.assertEqual(self.ledger.rows()[-1], ("net", (("ann", -14), ("bob", -15), ("cid", 29))))
        self.assertEqual(list(self.clearing.queue()), [2])
        self.assertEqual(self.clearing.rounds(), [(0, "best", [1, 2, 3, 4], [1, 3, 4], free, told[1])])

    def test_those_that_are_due_now_alone(self):
        self.add(pays("ann", "bob", 1, 0, 0, 5), pays("ann", "bob", 2, 0, 5, 9), pays("ann", "bob", 4, 0, 6, 9), pays("ann", "bob", 8, 0, 0, 9))
        self.assertEqual(self.clearing.on(5), [1])
        self.assertEqual(self.clearing.round("great")[0], [2, 4])
        self.assertEqual(self.clearing.rounds()[0][:4], (5, "great", [2, 4], [2, 4]))
        self.clearing.on(6)
        self.assertEqual(self.clearing.round("best")[0], [3])
        self.assertEqual(self.frees(), (6, 34, 20))

    def test_in_the_order_of_due(self):
        self.add(pays("ann", "bob", 9, 5), pays("ann", "bob", 8, 1), pays("ann", "bob", 7, 5), pays("ann", "bob", 3, 0), pays("ann", "bob", 20, 9))
        self.assertEqual(self.clearing.round("great")[0], [4, 2, 1])
        self.assertEqual(self.clearing.rounds()[0][2:4], ([4, 2, 1, 3, 5], [4, 2, 1]))
        self.clearing = Clearing(led())
        self.add(pays("ann", "bob", 9, 5), pays("ann", "bob", 8, 1), pays("ann", "bob", 7, 5), pays("ann", "bob", 4, 0), pays("ann", "bob", 21, 9))
        self.assertEqual(self.clearing.round("best")[0], [4, 1, 3])
        self.assertEqual(self.clearing.rounds()[0][2:4], ([4, 2, 1, 3, 5], [4, 1, 3]))
        self.assertEqual(list(self.clearing.queue()), [2, 5])

    def test_free_is_of_the_names_that_are_asked(self):
        self.ledger.enter("dan")
        self.add(pays("cid", "bob", 5), pays("dan", "ann", 1, 0, 1, 9))
        self.ledger.take("bob", 20)
        self.clearing.round("great")
        self.assertEqual(self.clearing.rounds()[-1][4], {"bob": 0, "cid": 20})
        self.assertEqual(list(self.clearing.rounds()[-1][4]), ["bob", "cid"])
        self.clearing.on(1)
        self.clearing.round("best")
        self.assertEqual(self.clearing.rounds()[-1][4], {"ann": 20, "dan": 0})

    def test_nothing_is_due(self):
        for how, paper in (("great", ()), ("best", ("best",))):
            self.assertEqual(self.clearing.round(how), ([], paper))
            self.assertEqual(self.clearing.rounds()[-1], (0, how, [], [], {}, paper))
        self.add(pays("ann", "bob", 1, 0, 1, 2))
        self.assertEqual(self.clearing.round("great"), ([], ()))
        self.assertEqual(len(self.clearing.rounds()), 3)
        self.assertEqual(list(self.clearing.queue()), [1])
        self.assertEqual(self.ledger.rows(), led().rows())

    def test_nothing_is_settled(self):
        self.add(pays("ann", "bob", 21), pays("cid", "bob", 99))
        for how, paper in (("great", {(0, 1), (1, 0)}), ("best", {("split", ("short", "ann"), ("split", ("short", "cid"), ("best",)))})):
            told = self.clearing.round(how)
            self.assertEqual(told[0], [])
            self.assertIn(told[1], paper)
            self.assertEqual(self.clearing.rounds()[-1], (0, how, [1, 2], [], {"ann": 20, "bob": 20, "cid": 20}, told[1]))
        self.assertEqual(list(self.clearing.queue()), [1, 2])
        self.assertEqual(self.ledger.rows(), led().rows())

    def test_no_row_where_no_names_changes(self):
        for how in ("great", "best"):
            self.add(pays("ann", "bob", 90), pays("bob", "cid", 90), pays("cid", "ann", 90))
            settled = self.clearing.round(how)[0]
            self.assertEqual(settled, self.clearing.rounds()[-1][2])
            self.assertEqual((len(settled), self.clearing.queue()), (3, {}))
        self.assertEqual(self.ledger.rows(), led().rows())

    def test_names_that_do_not_change_are_not_in_the_row(self):
        self.add(pays("ann", "bob", 90), pays("bob", "cid", 90), pays("cid", "ann", 80))
        self.clearing.round("great")
        self.assertEqual(self.ledger.rows()[-1], ("net", (("ann", -10), ("cid", 10))))

    def test_of_great_the_first_sixty(self):
        self.ledger.put("ann", 100)
        self.add(*[pays("ann", "bob", 1, 9 - at // 10) for at in range(70)])
        due = [*range(61, 71), *range(51, 61), *range(41, 51), *range(31, 41), *range(21, 31), *range(11, 21), *range(1, 11)]
        self.assertEqual(self.clearing.round("great"), (due[:60], ()))
        self.assertEqual(self.clearing.rounds()[0][2], due[:60])
        self.assertEqual(list(self.clearing.queue()), due[60:])
        self.assertEqual(self.clearing.round("great"), (due[60:], ()))
        self.assertEqual([changes for word, changes in self.ledger.rows() if word == "net"], [
            (("ann", -60), ("bob", 60)), (("ann", -10), ("bob", 10)),
        ])

    def test_of_best_the_first_twelve(self):
        self.add(*[pays("ann", "bob", 1, 9 - at) for at in range(10)], *[pays("ann", "bob", 1, 9)] * 5)
        due = [10, 9, 8, 7, 6, 5, 4, 3, 2, 1, 11, 12, 13, 14, 15]
        self.assertEqual(self.clearing.round("best")[0], due[:12])
        self.assertEqual(self.clearing.rounds()[0][2], due[:12])
        self.assertEqual(list(self.clearing.queue()), due[12:])
        self.assertEqual(self.clearing.round("best")[0], due[12:])
        self.assertEqual(self.frees(), (5, 35, 20))

    def test_those_behind_the_first_are_not_reckoned_with(self):
        self.ledger.take("ann", 20)
        self.add(*[pays("ann", "bob", 1)] * 12, pays("bob", "ann", 12))
        self.assertEqual(self.clearing.round("best")[0], [])
        self.assertEqual(self.clearing.round("great")[0], list(range(1, 14)))
        self.ledger.take("bob", 20)
        self.add(*[pays("ann", "bob", 1)] * 60, pays("cid", "ann", 12))
        self.assertEqual(self.clearing.round("great")[0], [])
        self.assertEqual(self.clearing.rounds()[-1][4], {"ann": 0, "bob": 0})

    def test_sixty_orders_of_names_all_unlike(self):
        names = [one + other for one in "abcdefghijkl" for other in "abcdefghij"]
        ledger = led(names, 1)
        clearing = Clearing(ledger)
        for at in range(0, 120, 2):
            clearing.add(pays(names[at], names[at + 1], 1))
        self.assertEqual(clearing.round("great"), (list(range(1, 61)), ()))
        self.assertEqual(len(ledger.rows()[-1][1]), 120)
        self.assertEqual([ledger.free(name) for name in names], [0, 2] * 60)

    def test_no_how(self):
        self.add(pays("ann", "bob", 5))
        for how in [*ODD, 0, 1, "Great", "great ", "BEST", "greatest", ("great",), ["best"], "g", "greatbest"]:
            self.kept(NoHow, {}, self.clearing.round, how)
        self.assertEqual(self.clearing.rounds(), [])

    def test_what_is_held_is_not_free(self):
        self.ledger.lock([("ann", 18)])
        self.add(pays("ann", "bob", 3))
        self.assertEqual(self.clearing.round("great")[0], [])
        self.add(pays("cid", "ann", 1))
        self.assertEqual(self.clearing.round("best")[0], [1, 2])

    def test_lists_and_dicts_told_may_be_changed(self):
        for how in ("great", "best"):
            self.add(pays("ann", "bob", 5), pays("ann", "bob", 90))
            told = self.clearing.round(how)
            rounds = copy.deepcopy(self.clearing.rounds())
            told[0].append(9)
            self.assertEqual(self.clearing.rounds(), rounds)
            again = self.clearing.rounds()
            again[-1][2].clear()
            again[-1][3].append(7)
            again[-1][4]["ann"] = 0
            again.pop()
            self.assertEqual(self.clearing.rounds(), rounds)

    def test_behind_rows_of_many_deeds(self):
        for seed in range(60):
            chance = random.Random(seed)
            ledger = led()
            clearing = Clearing(ledger)
            for _ in range(40):
                now = clearing.now()
                deed = chance.choice((
                    ("add", pays(*chance.choices((*NAMES, "zoe"), k=2), chance.randint(1, 30), chance.randint(0, 3), now + chance.randint(-1, 2), now + chance.randint(0, 6))),
                    ("add", pays(*chance.sample(NAMES, 2), chance.randint(1, 60), chance.randint(0, 2), now, now + 4)),
                    ("drop", chance.randint(1, 20)), ("on", now + chance.randint(0, 2)), ("round", chance.choice(("great", "best"))),
                ))
                queue, frees, rows = clearing.queue(), {name: ledger.free(name) for name in NAMES}, ledger.rows()
                try:
                    told = getattr(clearing, deed[0])(*deed[1:])
                except YardError:
                    self.assertEqual(clearing.queue(), queue)
                else:
                    if deed[0] == "round":
                        self.is_round(clearing, ledger, told, queue, frees, rows)
                self.assertTrue(all(order[6] > clearing.now() for order in clearing.queue().values()))
                self.assertEqual(sum(ledger.free(name) for name in NAMES), 60)
            self.assertEqual(ledger_of(ledger.rows()), ledger)

    def is_round(self, clearing, ledger, told, queue, frees, rows):
        time, how, asked, settled, free, paper = clearing.rounds()[-1]
        most = 60 if how == "great" else 12
        due = sorted([number for number, order in queue.items() if order[5] <= clearing.now() < order[6]], key=lambda number: (queue[number][4], number))
        self.assertEqual((time, asked), (clearing.now(), due[:most]))
        orders = [queue[number] for number in asked]
        self.assertEqual(free, {name: frees[name] for order in orders for name in order[1:3]})
        self.assertEqual(told, (settled, paper))
        shows = shows_greatest if how == "great" else shows_best
        self.assertTrue(shows(free, orders, ([asked.index(number) for number in settled], paper)))
        self.assertEqual(settled, [number for number in asked if number in settled])
        self.assertEqual(clearing.queue(), {number: order for number, order in queue.items() if number not in settled})
        changes = dict.fromkeys(NAMES, 0)
        for number in settled:
            changes[queue[number][1]] -= queue[number][3]
            changes[queue[number][2]] += queue[number][3]
        row = tuple((name, number) for name, number in changes.items() if number)
        self.assertEqual(ledger.rows(), rows + [("net", row)] * bool(row))
        self.assertEqual({name: ledger.free(name) for name in NAMES}, {name: frees[name] + changes[name] for name in NAMES})


if __name__ == "__main__":
    unittest.main()
