"""[20]: holds, claimed, dropped, and over."""

import random
import unittest

from clearyard.errors import NoAmount, NoName, NoPot, NoTime, Short, YardError
from clearyard.holds import Holds
from clearyard.ledger import Ledger, ledger_of
from things import MOST, NOT_AMOUNTS, NOT_COUNTS, NOT_NAMES, NOT_TIMES, Case

NAMES = ("ann", "bob", "cid")
SPOILED_NAMES = NOT_NAMES + ["nobody"]


def led():
    """A ledger in which each of three names has 20 free."""
    ledger = Ledger()
    for name in NAMES:
        ledger.enter(name)
        ledger.put(name, 20)
    return ledger


class Held(Case):

    def setUp(self):
        self.ledger = led()
        self.holds = Holds(self.ledger)

    def frees(self):
        return tuple(self.ledger.free(name) for name in NAMES)

    def kept(self, refusal, fields, call, *parts, **named):
        """That the call is refused, and nothing is changed by it."""
        before = (self.ledger.rows(), self.ledger.pots(), self.holds.holds(), self.holds.now(), self.frees())
        self.refused(refusal, fields, call, *parts, **named)
        after = (self.ledger.rows(), self.ledger.pots(), self.holds.holds(), self.holds.now(), self.frees())
        self.assertEqual(before, after)


class Hold(Held):

    def test_by_place_and_by_name(self):
        self.assertEqual(self.holds.hold("ann", "bob", 5, 1), 1)
        self.assertEqual(self.ledger.rows()[-1], ("lock", (("ann", -5), (1, 5))))
        self.assertEqual(self.holds.hold(until=9, amount=20, payee="ann", payer="bob"), 2)
        self.assertEqual(self.ledger.rows()[-1], ("lock", (("bob", -20), (2, 20))))
        self.assertEqual(self.frees(), (15, 0, 20))
        self.assertEqual(self.ledger.pots(), {1: 5, 2: 20})
        self.assertEqual(self.holds.holds(), {1: ("ann", "bob", 5, 1), 2: ("bob", "ann", 20, 9)})

    def test_by_name_at_the_start(self):
        self.assertEqual(Holds(ledger=self.ledger).hold("ann", "bob", 1, 1), 1)

    def test_numbers_are_the_ledgers(self):
        self.ledger.lock([("cid", 1)])
        self.assertEqual(self.holds.hold("ann", "bob", 1, 1), 2)
        self.ledger.lock([("cid", 1)])
        self.holds.drop(2)
        self.assertEqual(self.holds.hold("ann", "bob", 1, 1), 4)

    def test_much(self):
        self.ledger.put("ann", MOST)
        self.holds.hold("ann", "bob", MOST, 10 ** 39)
        self.assertEqual(self.holds.holds(), {1: ("ann", "bob", MOST, 10 ** 39)})
        self.holds.claim(1, MOST)
        self.assertEqual(self.frees(), (20, 20 + MOST, 20))

    def test_refusals_in_order(self):
        hold = self.holds.hold
        for name in SPOILED_NAMES:
            self.kept(NoName, {"name": name}, hold, name, "bob", 1, 1)
            self.kept(NoName, {"name": name}, hold, name, name, 0, 0)
            self.kept(NoName, {"name": name}, hold, name, None, None, None)
            self.kept(NoName, {"name": name}, hold, "ann", name, 1, 1)
            self.kept(NoName, {"name": name}, hold, "ann", name, 0, 0)
        self.kept(NoName, {"name": "ann"}, hold, "ann", "ann", 1, 1)
        self.kept(NoName, {"name": "ann"}, hold, "ann", "ann", 0, 0)
        for amount in NOT_AMOUNTS:
            self.kept(NoAmount, {}, hold, "ann", "bob", amount, 1)
            self.kept(NoAmount, {}, hold, "ann", "bob", amount, None)
        for time in [*NOT_TIMES, 0]:
            self.kept(NoTime, {"time": time}, hold, "ann", "bob", 1, time)
            self.kept(NoTime, {"time": time}, hold, "ann", "bob", 21, time)
        self.kept(Short, {"name": "ann"}, hold, "ann", "bob", 21, 1)
        self.kept(Short, {"name": "cid"}, hold, "cid", "bob", MOST, 1)

    def test_until_is_behind_now(self):
        self.holds.on(7)
        for time in (0, 6, 7):
            self.kept(NoTime, {"time": time}, self.holds.hold, "ann", "bob", 1, time)
        self.assertEqual(self.holds.hold("ann", "bob", 1, 8), 1)


class ClaimAndDrop(Held):

    def test_claim_of_part(self):
        self.holds.hold("bob", "ann", 5, 1)
        self.assertIsNone(self.holds.claim(1, 2))
        self.assertEqual(self.ledger.rows()[-1], ("share", ((1, -5), ("ann", 2), ("bob", 3))))
        self.assertEqual((self.frees(), self.ledger.pots(), self.holds.holds()), ((22, 18, 20), {}, {}))

    def test_claim_of_all(self):
        self.holds.hold("ann", "bob", 5, 1)
        self.holds.claim(amount=5, number=1)
        self.assertEqual(self.ledger.rows()[-1], ("share", ((1, -5), ("bob", 5))))
        self.assertEqual((self.frees(), self.ledger.pots(), self.holds.holds()), ((15, 25, 20), {}, {}))

    def test_claim_of_more(self):
        self.holds.hold("ann", "bob", 5, 1)
        self.kept(NoAmount, {}, self.holds.claim, 1, 6)
        for amount in NOT_AMOUNTS:
            self.kept(NoAmount, {}, self.holds.claim, 1, amount)
        self.holds.claim(1, 1)
        self.assertEqual(self.frees(), (19, 21, 20))

    def test_drop(self):
        self.holds.hold("ann", "bob", 5, 1)
        self.holds.hold("bob", "cid", 6, 1)
        self.assertIsNone(self.holds.drop(1))
        self.assertEqual(self.ledger.rows()[-1], ("share", ((1, -5), ("ann", 5))))
        self.assertEqual(self.holds.holds(), {2: ("bob", "cid", 6, 1)})
        self.holds.drop(number=2)
        self.assertEqual((self.frees(), self.ledger.pots(), self.holds.holds()), ((20, 20, 20), {}, {}))

    def test_none_that_is_held_here(self):
        self.ledger.lock([("cid", 5)])
        other = Holds(self.ledger)
        other.hold("cid", "ann", 1, 5)
        for number in (3, 4, 5, 6):
            self.holds.hold("ann", "bob", 2, 3)
        self.holds.claim(3, 1)
        self.holds.drop(4)
        self.holds.claim(5, 2)
        self.holds.on(3)
        for number in [*NOT_COUNTS, 1, 2, 3, 4, 5, 6, 7, 10 ** 39, "ann"]:
            self.kept(NoPot, {"number": number}, self.holds.claim, number, 1)
            self.kept(NoPot, {"number": number}, self.holds.claim, number, None)
            self.kept(NoPot, {"number": number}, self.holds.drop, number)
        other.claim(2, 1)

    def test_pots_that_others_share(self):
        self.holds.hold("ann", "bob", 9, 5)
        self.holds.hold("ann", "bob", 4, 5)
        self.ledger.share(1, [("cid", 6)])
        self.ledger.share(2, [("cid", 4)])
        self.kept(NoAmount, {}, self.holds.claim, 1, 4)
        self.kept(NoPot, {"number": 2}, self.holds.claim, 2, 1)
        self.kept(NoPot, {"number": 2}, self.holds.drop, 2)
        self.assertEqual(self.holds.holds(), {1: ("ann", "bob", 3, 5)})
        self.assertEqual(self.holds.on(5), [1])
        self.assertEqual(self.frees(), (10, 20, 30))


class On(Held):

    def test_now(self):
        self.assertEqual(self.holds.now(), 0)
        for time in (0, 1, 1, 5, 10 ** 39):
            self.assertEqual(self.holds.on(time), [])
            self.assertEqual(self.holds.now(), time)
        self.assertEqual(self.ledger.rows(), led().rows())

    def test_by_name(self):
        self.assertEqual(self.holds.on(time=3), [])
        self.assertEqual(self.holds.now(), 3)

    def test_no_time(self):
        self.holds.hold("ann", "bob", 1, 9)
        self.holds.on(4)
        for time in [*NOT_TIMES, 0, 3]:
            self.kept(NoTime, {"time": time}, self.holds.on, time)
        self.assertEqual(self.holds.on(4), [])

    def test_over_just_at_until(self):
        self.holds.hold("ann", "bob", 5, 3)
        self.assertEqual(self.holds.on(2), [])
        self.assertEqual(self.frees(), (15, 20, 20))
        self.assertEqual(self.holds.on(3), [1])
        self.assertEqual(self.ledger.rows()[-1], ("share", ((1, -5), ("ann", 5))))
        self.assertEqual((self.frees(), self.holds.holds()), ((20, 20, 20), {}))
        self.assertEqual(self.holds.on(3), [])

    def test_by_until_then_number(self):
        for until in (5, 3, 9, 3, 5, 8, 4):
            self.holds.hold("ann", "bob", 1, until)
        self.assertEqual(self.holds.on(8), [2, 4, 7, 1, 5, 6])
        told = [changes[0][0] for word, changes in self.ledger.rows() if word == "share"]
        self.assertEqual(told, [2, 4, 7, 1, 5, 6])
        self.assertEqual(self.holds.holds(), {3: ("ann", "bob", 1, 9)})

    def test_one_great_step_or_lesser_ones(self):
        for seed in range(40):
            chance = random.Random(seed)
            held = [(*chance.sample(NAMES, 2), chance.randint(1, 3), chance.randint(1, 12)) for _ in range(6)]
            ends = []
            for steps in ([12], range(1, 13), sorted(chance.choices(range(13), k=4)) + [12]):
                ledger = led()
                holds = Holds(ledger)
                for each in held:
                    holds.hold(*each)
                over = []
                for time in steps:
                    over += holds.on(time)
                ends.append((over, ledger.rows(), holds.holds(), holds.now()))
            self.assertEqual(ends[0], ends[1])
            self.assertEqual(ends[0], ends[2])
            self.assertEqual(ends[0][0], [at for _, at in sorted((each[3], at) for at, each in enumerate(held, 1))])


class Told(Held):

    def test_the_askers_own(self):
        self.holds.hold("ann", "bob", 5, 3)
        told = self.holds.holds()
        told[1] = None
        told[2] = ("ann", "bob", 1, 9)
        self.assertEqual(self.holds.holds(), {1: ("ann", "bob", 5, 3)})
        over = self.holds.on(3)
        over.append(9)
        self.assertEqual(self.holds.on(3), [])

    def test_rising(self):
        for until in (5, 3, 9, 1):
            self.holds.hold("ann", "bob", 1, until)
        self.holds.drop(2)
        self.holds.hold("ann", "bob", 1, 2)
        self.assertEqual(list(self.holds.holds()), [1, 3, 4, 5])

    def test_sums_behind_rows_of_many_deeds(self):
        for seed in range(40):
            chance = random.Random(seed)
            ledger = led()
            holds = Holds(ledger)
            for _ in range(60):
                number = chance.randint(1, 12)
                deed = chance.choice((
                    ("hold", *chance.choices(NAMES, k=2), chance.randint(1, 9), holds.now() + chance.randint(0, 6)),
                    ("claim", number, chance.randint(1, 9)), ("drop", number), ("on", holds.now() + chance.randint(0, 2)),
                ))
                try:
                    getattr(holds, deed[0])(*deed[1:])
                except YardError:
                    pass
                self.assertEqual({at: hold[2] for at, hold in holds.holds().items()}, ledger.pots())
                self.assertTrue(all(hold[3] > holds.now() for hold in holds.holds().values()))
                self.assertEqual(sum(map(ledger.free, NAMES)) + sum(ledger.pots().values()), 60)
                self.assertEqual(ledger.total(), 60)
            self.assertEqual(ledger_of(ledger.rows()), ledger)


if __name__ == "__main__":
    unittest.main()
