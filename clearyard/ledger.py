"""The ledger: accounts and pots, led by deeds of which each writes one row."""

from clearyard.errors import NoAmount, NoLog, NoName, NoPot, Short, YardError
from clearyard.words import is_amount, is_count, is_list, is_name, is_number, is_pair

MOST_PARTS = 4
MOST_NET = 120


class Ledger:
    """Accounts with what is free, pots, and the rows by which all of it came."""

    def __init__(self):
        self._free = {}
        self._pots = {}
        self._rows = []
        self._total = 0
        self._newest = 0

    def enter(self, name):
        """A new account."""
        if not is_name(name) or name in self._free:
            raise NoName(name)
        self._write("enter", ((name, 0),))

    def put(self, name, amount):
        """An amount comes in from outside."""
        self._look_for(name)
        _look_at_amount(amount)
        self._write("put", ((None, -amount), (name, amount)))

    def take(self, name, amount):
        """An amount goes out."""
        self._look_for(name)
        _look_at_amount(amount)
        self._look_whether_free(name, amount)
        self._write("take", ((name, -amount), (None, amount)))

    def move(self, one, other, amount):
        """An amount goes from one to other."""
        self._look_for(one)
        self._look_for(other)
        if other == one:
            raise NoName(other)
        _look_at_amount(amount)
        self._look_whether_free(one, amount)
        self._write("move", ((one, -amount), (other, amount)))

    def lock(self, parts):
        """Amounts of names go into a new pot: its number."""
        _look_at_pairs(parts, 1, MOST_PARTS)
        self._look_at_parts(parts, is_amount)
        for name, amount in parts:
            self._look_whether_free(name, amount)
        number = self._newest + 1
        given = [(name, -amount) for name, amount in sorted(parts)]
        self._write("lock", (*given, (number, _sum_of(parts))))
        self._newest = number
        return number

    def share(self, number, parts):
        """Of what is in a pot so much goes to names."""
        left = self.pot(number)
        _look_at_pairs(parts, 1, MOST_PARTS)
        self._look_at_parts(parts, is_count)
        shared = _sum_of(parts)
        if shared > left:
            raise NoAmount()
        self._write("share", ((number, -shared), *sorted(parts)))

    def net(self, parts):
        """Names give and get at once, as much given as got."""
        _look_at_pairs(parts, 0, MOST_NET)
        self._look_at_parts(parts, is_number)
        if _sum_of(parts) != 0:
            raise NoAmount()
        changes = [(name, number) for name, number in sorted(parts) if number != 0]
        for name, number in changes:
            self._look_whether_free(name, -number)
        self._write("net", tuple(changes))

    def free(self, name):
        """What name has free."""
        self._look_for(name)
        return self._free[name]

    def pot(self, number):
        """What is in a pot."""
        if not is_number(number) or number not in self._pots:
            raise NoPot(number)
        return self._pots[number]

    def names(self):
        """The names that have accounts, rising."""
        return sorted(self._free)

    def pots(self):
        """What is in the pots, by their numbers, rising."""
        return {number: self._pots[number] for number in sorted(self._pots)}

    def total(self):
        """What came in less what went out."""
        return self._total

    def rows(self):
        """All rows, each a word and its changes."""
        return list(self._rows)

    def twin(self):
        """A ledger that stands alike, led by its own deeds from then on."""
        other = Ledger()
        other.stand_as(self)
        return other

    def stand_as(self, other):
        """From now on it stands as another one."""
        self._free = dict(other._free)
        self._pots = dict(other._pots)
        self._rows = list(other._rows)
        self._total = other._total
        self._newest = other._newest

    def __len__(self):
        return len(self._rows)

    def __eq__(self, other):
        return isinstance(other, Ledger) and self._free == other._free and self._pots == other._pots

    def _look_for(self, name):
        if not is_name(name) or name not in self._free:
            raise NoName(name)

    def _look_whether_free(self, name, number):
        if self._free[name] < number:
            raise Short(name)

    def _look_at_parts(self, parts, fits):
        ahead = {}
        for name, number in parts:
            self._look_for(name)
            if name in ahead:
                raise NoName(name)
            ahead[name] = True
            if not fits(number):
                raise NoAmount()

    def _write(self, word, changes):
        """Does a row and keeps it: nothing else changes what stands here."""
        for place, number in changes:
            self._change(place, number)
        self._rows.append((word, changes))

    def _change(self, place, number):
        if place is None:
            self._total -= number
        elif is_name(place):
            self._free[place] = self._free.get(place, 0) + number
        else:
            self._pots[place] = self._pots.get(place, 0) + number
            if self._pots[place] == 0:
                del self._pots[place]


def _look_at_amount(amount):
    if not is_amount(amount):
        raise NoAmount()


def _look_at_pairs(parts, least, most):
    if not is_list(parts) or not least <= len(parts) <= most:
        raise NoAmount()
    if not all([is_pair(part) for part in parts]):
        raise NoAmount()


def _sum_of(parts):
    return sum([number for _, number in parts])


def _enter_again(ledger, changes):
    ledger.enter(changes[0][0])


def _put_again(ledger, changes):
    ledger.put(changes[1][0], changes[1][1])


def _take_again(ledger, changes):
    ledger.take(changes[0][0], changes[1][1])


def _move_again(ledger, changes):
    ledger.move(changes[0][0], changes[1][0], changes[1][1])


def _lock_again(ledger, changes):
    ledger.lock([(name, -number) for name, number in changes[:-1]])


def _share_again(ledger, changes):
    ledger.share(changes[0][0], changes[1:])


def _net_again(ledger, changes):
    ledger.net(changes)


AGAIN = {
    "enter": _enter_again,
    "put": _put_again,
    "take": _take_again,
    "move": _move_again,
    "lock": _lock_again,
    "share": _share_again,
    "net": _net_again,
}

# How many changes a row has at least: so many are looked at to do its deed again.
LEAST = {"enter": 1, "put": 2, "take": 2, "move": 2, "lock": 2, "share": 2, "net": 0}


def ledger_of(rows):
    """The ledger led by rows."""
    if not is_list(rows):
        raise NoLog(0)
    ledger = Ledger()
    for at, row in enumerate(rows):
        if not _leads(ledger, row):
            raise NoLog(at)
    return ledger


def _leads(ledger, row):
    """Does the deed of row at ledger: whether it could be done, and wrote just this row."""
    if not _is_row(row):
        return False
    word, changes = row
    again = AGAIN[word]
    try:
        again(ledger, changes)
    except YardError:
        return False
    return ledger._rows[-1] == row


def _is_row(thing):
    """Whether thing has a row's form, down to the kinds, which == doesn't tell apart."""
    if not is_pair(thing) or not isinstance(thing[0], str) or not isinstance(thing[1], tuple):
        return False
    word, changes = thing
    if word not in LEAST or len(changes) < LEAST[word]:
        return False
    return all([_is_change(change) for change in changes])


def _is_change(thing):
    if not is_pair(thing) or not is_number(thing[1]):
        return False
    place = thing[0]
    return place is None or is_name(place) or is_count(place)
