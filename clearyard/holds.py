"""Holds: pots that are claimed by a payee till a time, or go back to the payer."""

from clearyard.errors import NoAmount, NoName, NoPot, NoTime
from clearyard.words import is_amount, is_number, is_time


class Holds:
    """The holds at one ledger, and their time."""

    def __init__(self, ledger):
        self._ledger = ledger
        self._now = 0
        self._held = {}

    def hold(self, payer, payee, amount, until):
        """Locks payer's amount for payee till until: the pot's number."""
        # Both are asked for the sake of the refusal alone.
        self._ledger.free(payer)
        self._ledger.free(payee)
        if payee == payer:
            raise NoName(payee)
        if not is_amount(amount):
            raise NoAmount()
        if not is_time(until) or until <= self._now:
            raise NoTime(until)
        number = self._ledger.lock([(payer, amount)])
        self._held[number] = (payer, payee, until)
        return number

    def claim(self, number, amount):
        """So much goes to the payee, the rest back to the payer."""
        left = self._left(number)
        if not is_amount(amount) or amount > left:
            raise NoAmount()
        payer, payee, _ = self._held[number]
        parts = [(payee, amount)]
        if amount < left:
            parts.append((payer, left - amount))
        self._ledger.share(number, parts)
        del self._held[number]

    def drop(self, number):
        """All goes back to the payer."""
        left = self._left(number)
        payer = self._held[number][0]
        self._ledger.share(number, [(payer, left)])
        del self._held[number]

    def on(self, time):
        """Time goes on, and what is over goes back: the numbers of these holds."""
        if not is_time(time) or time < self._now:
            raise NoTime(time)
        self._now = time
        ends = sorted([(hold[3], number) for number, hold in self.holds().items()])
        over = [number for until, number in ends if until <= time]
        for number in over:
            self.drop(number)
        return over

    def now(self):
        """The time."""
        return self._now

    def holds(self):
        """All holds, (payer, payee, amount, until) by their numbers, rising."""
        pots = self._ledger.pots()
        told = {}
        for number in sorted(self._held):
            payer, payee, until = self._held[number]
            # Whoever has the ledger can share a held pot, too: what is left there is what is held.
            if number in pots:
                told[number] = (payer, payee, pots[number], until)
        return told

    def stand_as(self, other):
        """From now on it stands as another one, at a ledger that stands as the other's."""
        self._now = other._now
        self._held = dict(other._held)

    def _left(self, number):
        if not is_number(number) or number not in self._held:
            raise NoPot(number)
        return self._ledger.pot(number)
