"""[11], [2] (a), [3]: what the ledger tells, its twins, and its equality."""

import random
import unittest

from clearyard.errors import NoName, NoPot, YardError
from clearyard.ledger import Ledger
from things import NOT_COUNTS, NOT_NAMES, Case, some_deed

class Model:
    """The same sums, kept straight from the rows, without the ledger's own ways."""

    def __init__(self):
        self.stands = {}
        self.rows = []

    def follow(self, row):
        self.rows.append(row)
        for place, number in row[1]:
            self.stands[place] = self.stands.get(place, 0) + number

    def frees(self):
        return {name: self.stands[name] for name in self.stands if isinstance(name, str)}

    def pots(self):
        return {number: self.stands[number] for number in self.stands if isinstance(number, int) and self.stands[number]}


class Sums(Case):

    def test_behind_rows_of_many_deeds(self):
        words = set()
        refusals = set()
        for seed in range(60):
            chance = random.Random(seed)
            ledger = Ledger()
            model = Model()
            for _ in range(60):
                word, parts = some_deed(chance, ledger)
                try:
                    getattr(ledger, word)(*parts)
                    words.add(word)
                    model.follow(ledger.rows()[-1])
                    self.assertEqual(model.rows[-1][0], word)
                except YardError as refusal:
                    refusals.add(refusal.__class__.__name__)
                self.look(ledger, model)
        self.assertEqual(len(words), 7)
        self.assertEqual(refusals, {"NoName", "NoAmount", "NoPot", "Short"})

    def look(self, ledger, model):
        frees = model.frees()
        pots = model.pots()
        self.assertEqual(ledger.rows(), model.rows)
        self.assertEqual(len(ledger), len(model.rows))
        self.assertEqual(ledger.names(), sorted(frees))
        self.assertEqual([ledger.free(name) for name in sorted(frees)], [frees[name] for name in sorted(frees)])
        self.assertEqual(list(ledger.pots().items()), sorted(pots.items()))
        self.assertEqual([ledger.pot(number) for number in pots], list(pots.values()))
        self.assertEqual(ledger.total(), -model.stands.get(None, 0))
        self.assertEqual(ledger.total(), sum(frees.values()) + sum(pots.values()))
        self.assertTrue(all(number >= 0 for number in [*frees.values(), *pots.values()]))
        for word, changes in ledger.rows()[-1:]:
            self.assertEqual(sum(number for _, number in changes), 0)
            self.assertEqual(len({place for place, _ in changes}), len(changes))
            self.assertTrue(word == "enter" or all(number for _, number in changes))


class Standing(Case):

    def setUp(self):
        self.ledger = Ledger()
        for name in ("cid", "ann", "bob"):
            self.ledger.enter(name)
            self.ledger.put(name, 9)
        self.ledger.lock([("cid", 2)])
        self.ledger.lock([("bob", 3)])


class Told(Standing):

    def test_of_an_empty_one(self):
        ledger = Ledger()
        self.assertEqual((ledger.names(), ledger.pots(), ledger.total(), ledger.rows(), len(ledger)), ([], {}, 0, [], 0))
        self.refused(NoName, {"name": "ann"}, ledger.free, "ann")
        self.refused(NoPot, {"number": 1}, ledger.pot, 1)

    def test_free(self):
        self.assertEqual((self.ledger.free("cid"), self.ledger.free(name="ann")), (7, 9))
        for name in [*NOT_NAMES, "dan"]:
            self.refused(NoName, {"name": name}, self.ledger.free, name)

    def test_pot(self):
        self.assertEqual((self.ledger.pot(1), self.ledger.pot(number=2)), (2, 3))
        for number in [*NOT_COUNTS, 3, 10 ** 39, "ann"]:
            self.refused(NoPot, {"number": number}, self.ledger.pot, number)
        self.ledger.share(1, [("ann", 2)])
        self.refused(NoPot, {"number": 1}, self.ledger.pot, 1)

    def test_what_is_told_is_the_askers_own(self):
        before = self.ledger.twin()
        self.ledger.names().append("dan")
        self.ledger.pots()[1] = 99
        self.ledger.rows().pop()
        self.ledger.rows().append(("put", ((None, -1), ("ann", 1))))
        self.assertEqual(self.ledger, before)
        self.assertEqual(self.ledger.rows(), before.rows())
        self.assertEqual(self.ledger.names(), ["ann", "bob", "cid"])
        self.assertEqual(self.ledger.pots(), {1: 2, 2: 3})

    def test_what_was_handed_in_may_be_changed(self):
        parts = [("bob", 1), ("ann", 2)]
        for call in (self.ledger.lock, lambda told: self.ledger.share(3, told)):
            told = list(parts)
            call(told)
            self.assertEqual(told, parts)
            rows = self.ledger.rows()
            told.append(("cid", 5))
            told[0] = ("cid", 5)
            self.assertEqual(self.ledger.rows(), rows)
        told = [("bob", 1), ("ann", -1)]
        self.ledger.net(told)
        told.clear()
        self.assertEqual(self.ledger.rows()[-1], ("net", (("ann", -1), ("bob", 1))))

    def test_telling_changes_nothing(self):
        before = self.ledger.twin()
        for _ in range(2):
            self.ledger.free("ann"), self.ledger.pot(1), self.ledger.names(), self.ledger.pots(), self.ledger.total()
            self.ledger.rows(), self.ledger.twin(), len(self.ledger), self.ledger == before
        self.assertEqual(self.ledger, before)
        self.assertEqual(self.ledger.rows(), before.rows())
        self.assertEqual(self.ledger.total(), before.total())


class Twins(Standing):

    def test_alike(self):
        twin = self.ledger.twin()
        self.assertIsNot(twin, self.ledger)
        self.assertIsInstance(twin, Ledger)
        self.assertEqual(twin, self.ledger)
        self.assertEqual((twin.rows(), twin.total(), len(twin)), (self.ledger.rows(), self.ledger.total(), len(self.ledger)))
        self.ledger.share(2, [("ann", 3)])
        self.assertEqual(self.ledger.twin().lock([("ann", 1)]), 3)

    def test_each_by_its_own_deeds_alone(self):
        deeds = (
            ("enter", "eve"), ("put", "ann", 1), ("take", "ann", 1), ("move", "ann", "bob", 1), ("lock", [("ann", 1)]),
            ("share", 1, [("bob", 1)]), ("share", 1, [("bob", 2)]), ("net", [("ann", 1), ("bob", -1)]), ("net", []),
        )
        for word, *parts in deeds:
            for turned in (False, True):
                twin = self.ledger.twin()
                still, led = (twin, self.ledger.twin()) if turned else (self.ledger.twin(), twin)
                before = (still.rows(), still.pots(), still.names(), still.total(), [still.free(name) for name in still.names()])
                getattr(led, word)(*parts)
                after = (still.rows(), still.pots(), still.names(), still.total(), [still.free(name) for name in still.names()])
                self.assertEqual(before, after)
                self.assertEqual(len(led), len(still) + 1)

    def test_numbers_go_on_apart(self):
        twin = self.ledger.twin()
        self.assertEqual([twin.lock([("ann", 1)]), twin.lock([("ann", 1)])], [3, 4])
        self.assertEqual(self.ledger.lock([("ann", 1)]), 3)


class Equality(Standing):

    def both(self, one, other, alike):
        self.assertIs(one == other, alike)
        self.assertIs(other == one, alike)
        self.assertIs(one != other, not alike)
        self.assertIs(other != one, not alike)

    def test_where_names_with_what_is_free_and_pots_are(self):
        self.both(Ledger(), Ledger(), True)
        self.both(self.ledger, self.ledger.twin(), True)
        for word, *parts in (
            ("enter", "eve"), ("put", "ann", 1), ("take", "ann", 1), ("move", "ann", "bob", 1),
            ("lock", [("ann", 1)]), ("share", 1, [("bob", 1)]), ("net", [("ann", 1), ("bob", -1)]),
        ):
            twin = self.ledger.twin()
            getattr(twin, word)(*parts)
            self.both(self.ledger, twin, False)

    def test_rows_and_numbers_aside(self):
        twin = self.ledger.twin()
        twin.net([])
        twin.put("ann", 5)
        twin.take("ann", 5)
        twin.share(twin.lock([("ann", 1)]), [("ann", 1)])
        self.both(self.ledger, twin, True)
        one, other = Ledger(), Ledger()
        for ledger, names in ((one, ("ann", "bob")), (other, ("bob", "ann"))):
            for name in names:
                ledger.enter(name)
        self.both(one, other, True)

    def test_pots_by_their_numbers(self):
        other = Ledger()
        for name in ("ann", "bob", "cid"):
            other.enter(name)
            other.put(name, 9)
        other.lock([("bob", 3)])
        other.lock([("cid", 2)])
        self.both(self.ledger, other, False)

    def test_to_nothing_else(self):
        rows = self.ledger.rows()
        for thing in (None, True, False, 0, 1, "", "ann", [], rows, (), tuple(rows), {}, self.ledger.pots(), object()):
            self.both(self.ledger, thing, False)
            self.both(Ledger(), thing, False)


if __name__ == "__main__":
    unittest.main()
