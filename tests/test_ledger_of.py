"""[11]: the ledger led by rows, and the first row that can't be."""

import copy
import random
import unittest

from clearyard.errors import NoLog, YardError
from clearyard.ledger import Ledger, ledger_of
from things import MOST, NOT_LISTS, NOT_NAMES, NOT_NUMBERS, ODD, Case, some_deed


def led():
    """A ledger that has a row of each deed."""
    ledger = Ledger()
    for name in ("bob", "ann", "cid", "dan"):
        ledger.enter(name)
        ledger.put(name, 50)
    ledger.take("ann", 5)
    ledger.move("bob", "ann", 7)
    ledger.lock([("cid", 9), ("ann", 4)])
    ledger.lock([("dan", 8), ("bob", 1), ("ann", 2), ("cid", 3)])
    ledger.share(1, [("dan", 3), ("bob", 2)])
    ledger.share(1, [("ann", 8)])
    ledger.net([("dan", -5), ("bob", 0), ("ann", 2), ("cid", 3)])
    ledger.net([])
    ledger.lock([("ann", 1)])
    ledger.share(3, [("ann", 1)])
    return ledger


class Alike(Case):

    def same(self, one, other):
        self.assertEqual(one, other)
        self.assertEqual(one.rows(), other.rows())
        self.assertEqual((len(one), one.total(), one.names(), one.pots()), (len(other), other.total(), other.names(), other.pots()))

    def test_own_rows_and_each_beginning(self):
        ledger = led()
        self.same(ledger_of(ledger.rows()), ledger)
        for many in range(len(ledger) + 1):
            self.assertEqual(ledger_of(ledger.rows()[:many]).rows(), ledger.rows()[:many])
        self.same(ledger_of(tuple(ledger.rows())), ledger)
        self.same(ledger_of(rows=ledger.rows()), ledger)
        self.assertEqual(ledger_of(ledger.rows()).lock([("ann", 1)]), 4)

    def test_of_no_row(self):
        self.same(ledger_of([]), Ledger())
        self.same(ledger_of(()), Ledger())

    def test_rows_of_many_deeds(self):
        for seed in range(40):
            chance = random.Random(seed)
            ledger = Ledger()
            for _ in range(80):
                word, parts = some_deed(chance, ledger)
                try:
                    getattr(ledger, word)(*parts)
                except YardError:
                    pass
            self.same(ledger_of(ledger.rows()), ledger)

    def test_rows_handed_in_stay_and_may_be_changed(self):
        rows = led().rows()
        before = copy.deepcopy(rows)
        ledger = ledger_of(rows)
        self.assertEqual(rows, before)
        rows.pop()
        rows[0] = None
        self.same(ledger, led())

    def test_bounds(self):
        rows = [("enter", (("ann", 0),)), ("enter", (("bob", 0),))]
        rows += [("put", ((None, -MOST), ("ann", MOST)))] * 2
        rows += [("net", (("ann", -2 * MOST), ("bob", 2 * MOST)))]
        rows += [("lock", (("bob", -MOST), (1, MOST)))]
        self.assertEqual(ledger_of(rows).pots(), {1: MOST})
        for word, changes in (
            ("put", ((None, -MOST - 1), ("ann", MOST + 1))), ("take", (("bob", -MOST - 1), (None, MOST + 1))),
            ("move", (("bob", -MOST - 1), ("ann", MOST + 1))), ("lock", (("bob", -MOST - 1), (1, MOST + 1))),
        ):
            self.refused(NoLog, {"row": 5}, ledger_of, [*rows[:5], (word, changes)])

    def test_share_beyond_amounts(self):
        rows = [("enter", (("ann", 0),)), ("enter", (("bob", 0),))]
        rows += [("put", ((None, -MOST), (name, MOST))) for name in ("ann", "bob")]
        rows += [("lock", (("ann", -MOST), ("bob", -MOST), (1, 2 * MOST)))]
        rows += [("share", ((1, -2 * MOST), ("ann", 2 * MOST)))]
        self.assertEqual(ledger_of(rows).free("ann"), 2 * MOST)


class NoRows(Case):

    def setUp(self):
        self.rows = led().rows()

    def first(self, at, rows):
        self.refused(NoLog, {"row": at}, ledger_of, rows)
        self.refused(NoLog, {"row": at}, ledger_of, tuple(rows))

    def instead(self, at, row):
        """That row can't stand at this place."""
        self.first(at, [*self.rows[:at], row, *self.rows[at + 1:]])

    def where(self, word, nth=0):
        return [at for at, row in enumerate(self.rows) if row[0] == word][nth]

    def test_no_list(self):
        for thing in NOT_LISTS:
            self.refused(NoLog, {"row": 0}, ledger_of, thing)

    def test_no_form(self):
        for at, (word, changes) in enumerate(self.rows):
            for row in [*ODD, [word, changes], (word, list(changes)), (word,), (word, changes, ()), (word, changes, None)]:
                self.instead(at, row)
            for other in [*ODD, [word], (word,), word + " ", word.upper(), "free", "rows", "twin"]:
                self.instead(at, (other, changes))
            for other in [thing for thing in ODD if thing != () or word != "net"] + [{}, str(changes)]:
                self.instead(at, (word, other))

    def test_another_word(self):
        for at, (word, changes) in enumerate(self.rows):
            for other in ("enter", "put", "take", "move", "lock", "share", "net"):
                # A move's changes may be a net's, too, where its names rise.
                if other != word and (word, other) != ("move", "net") and (word, changes) != ("net", ()):
                    self.instead(at, (other, changes))
        self.instead(self.where("net", 1), ("enter", ()))

    def test_moves_and_nets(self):
        at = self.where("move")
        self.assertEqual(self.rows[at][1], (("bob", -7), ("ann", 7)))
        self.instead(at, ("net", (("bob", -7), ("ann", 7))))
        self.assertEqual(ledger_of([*self.rows[:at], ("net", (("ann", 7), ("bob", -7)))]).free("ann"), 52)

    def test_another_form_of_a_change(self):
        for at, (word, changes) in enumerate(self.rows):
            for k, (place, number) in enumerate(changes):
                for change in [*ODD, [place, number], (place,), (place, number, number), (number, place), {place: number}]:
                    self.instead(at, (word, (*changes[:k], change, *changes[k + 1:])))

    def test_another_place(self):
        for at, (word, changes) in enumerate(self.rows):
            for k, (place, number) in enumerate(changes):
                others = [*NOT_NAMES, [place], (place,), 99, "nobody" if word != "enter" else "ann "]
                for other in [thing for thing in others if repr(thing) != repr(place)]:
                    self.instead(at, (word, (*changes[:k], (other, number), *changes[k + 1:])))

    def test_another_number(self):
        for at, (word, changes) in enumerate(self.rows):
            for k, (place, number) in enumerate(changes):
                others = [*NOT_NUMBERS, number + 1, number - 1, -number, 0, 10 ** 39, -10 ** 39, str(number), [number]]
                for other in [thing for thing in others if repr(thing) != repr(number)]:
                    if word != "enter" or repr(other) != "0":
                        self.instead(at, (word, (*changes[:k], (place, other), *changes[k + 1:])))

    def test_all_numbers_otherwise(self):
        for at, (word, changes) in enumerate(self.rows):
            if changes and word != "enter":
                if word != "net":
                    self.instead(at, (word, tuple((place, -number) for place, number in changes)))
                self.instead(at, (word, tuple((place, 0) for place, number in changes)))
                self.instead(at, (word, tuple((place, number * 10 ** 12) for place, number in changes)))

    def test_changes_out_of_their_order(self):
        for at, (word, changes) in enumerate(self.rows):
            if len(changes) > 1:
                self.instead(at, (word, changes[::-1]))
                self.instead(at, (word, changes[1:] + changes[:1]))
                self.instead(at, (word, (changes[1], changes[0], *changes[2:])))
                self.instead(at, (word, (*changes[:-2], changes[-1], changes[-2])))

    def test_changes_too_few_too_many(self):
        for at, (word, changes) in enumerate(self.rows):
            for k in range(len(changes)):
                self.instead(at, (word, changes[:k] + changes[k + 1:]))
                self.instead(at, (word, (*changes[:k], changes[k], *changes[k:])))
            for more in (("ann", 0), ("nobody", 0), (None, 0), (99, 0), ("ann", 1)):
                self.instead(at, (word, (*changes, more)))
                if (word, changes) != ("net", ()):
                    self.instead(at, (word, (more, *changes)))
        self.instead(self.where("net"), ("net", (("ann", 2), ("bob", 0), ("cid", 3), ("dan", -5))))

    def test_pots_by_the_next_number(self):
        at = self.where("lock", 1)
        changes = self.rows[at][1]
        self.assertEqual(changes[-1], (2, 14))
        for number in (1, 3, 0, -2, 20):
            self.first(at, [*self.rows[:at], ("lock", (*changes[:-1], (number, 14)))])

    def test_what_is_free_then(self):
        rows = [("enter", (("ann", 0),)), ("enter", (("bob", 0),)), ("put", ((None, -5), ("ann", 5)))]
        self.first(3, [*rows, ("take", (("ann", -6), (None, 6)))])
        self.first(3, [*rows, ("move", (("ann", -6), ("bob", 6)))])
        self.first(3, [*rows, ("lock", (("ann", -6), (1, 6)))])
        self.first(3, [*rows, ("net", (("ann", -6), ("bob", 6)))])
        self.first(3, [*rows, ("net", (("ann", 6), ("bob", -6)))])
        rows.append(("lock", (("ann", -5), (1, 5))))
        self.first(4, [*rows, ("share", ((1, -6), ("ann", 6)))])
        self.first(4, [*rows, ("share", ((2, -5), ("ann", 5)))])
        rows.append(("share", ((1, -5), ("ann", 5))))
        self.first(5, [*rows, ("share", ((1, -5), ("ann", 5)))])

    def test_a_row_out_twice_exchanged(self):
        self.first(0, self.rows[1:])
        enters = [at for at, row in enumerate(self.rows) if row[0] == "enter"]
        for at in enters:
            self.first(at + 1, [*self.rows[:at + 1], self.rows[at], *self.rows[at + 1:]])
            self.first(at, self.rows[:at] + self.rows[at + 1:])
            self.first(at, [*self.rows[:at], self.rows[at + 1], self.rows[at], *self.rows[at + 2:]])
        locked, again = self.where("lock"), self.where("lock", 1)
        self.first(again - 1, self.rows[:locked] + self.rows[locked + 1:])
        self.first(locked + 1, [*self.rows[:locked + 1], *self.rows[locked:]])
        exchanged = list(self.rows)
        exchanged[locked], exchanged[again] = exchanged[again], exchanged[locked]
        self.first(locked, exchanged)
        shared = self.where("share", 1)
        self.first(shared + 1, [*self.rows[:shared + 1], *self.rows[shared:]])

    def test_the_first_of_several(self):
        for at in range(len(self.rows)):
            self.first(at, [*self.rows[:at], None, *self.rows[at + 1:-1], None])
        self.first(len(self.rows), [*self.rows, None])

    def test_names(self):
        for name in NOT_NAMES + ["ann"]:
            self.first(len(self.rows), [*self.rows, ("enter", ((name, 0),))])


if __name__ == "__main__":
    unittest.main()
