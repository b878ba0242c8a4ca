"""The yard: one ledger with all that stands on it, its members, and what is under way; led by deeds."""

from clearyard.clearing import Clearing
from clearyard.courts import Court
from clearyard.errors import NoDeed, NoName, NoPool, NoSeal, NoTime, YardError
from clearyard.holds import Holds
from clearyard.ledger import Ledger
from clearyard.lines import Lines, asked, message_of
from clearyard.members import Member
from clearyard.partners import Partner
from clearyard.seals import sealed_text
from clearyard.states import is_party
from clearyard.trees import Tree
from clearyard.words import is_count, is_key, is_list, is_name, is_number

MOST_TICKS = 100


class Yard:
    """All of it, at one time."""

    def __init__(self, digest):
        self._digest = asked(digest)
        self._ledger = Ledger()
        self._holds = Holds(self._ledger)
        self._clearing = Clearing(self._ledger)
        self._court = Court(self._ledger, self._digest)
        self._members = {}
        self._keys = {}
        self._lines = {}
        self._deeds = []
        self._log = []

    def do(self, deed):
        """Does a deed: what it tells."""
        k = self._begin()
        try:
            # It is done at a twin: what is refused, or where the digest raises an error, changes nothing here.
            trial = self._trial()
            told = trial._do(deed)
            self._stand_as(trial)
            return told
        finally:
            self._log.append(("end", k))

    def all_done(self, deeds):
        """Does all deeds, in order, or none: the list of what each tells."""
        k = self._begin()
        try:
            trial = self._trial()
            told = trial._do_all(deeds)
            self._stand_as(trial)
            return told
        finally:
            self._log.append(("end", k))

    def log(self):
        """The begin and the end of each do and all_done, done or refused."""
        return list(self._log)

    def deeds(self):
        """The deeds that were done, in order."""
        return list(self._deeds)

    def now(self):
        """The time."""
        return self._court.now()

    def ledger(self):
        """The ledger, to be asked only."""
        return self._ledger

    def clearing(self):
        """The clearing, to be asked only."""
        return self._clearing

    def member(self, name):
        """The member of that name, to be asked only."""
        if not is_name(name) or name not in self._members:
            raise NoName(name)
        return self._members[name]

    def holds(self):
        """All holds by their numbers, rising."""
        return self._holds.holds()

    def pools(self):
        """All pools by their numbers, rising."""
        return self._court.pools()

    def board(self):
        """The secrets that were shown, rising, and when each was first."""
        return self._court.board()

    def line(self, pool, party):
        """All that is under way to a party of a pool."""
        lines = self._lines_of(pool)
        if not is_party(party):
            raise NoPool(pool)
        return lines.line(party)

    def worth(self, name):
        """What name has free, what is held of it as payer, and what is sure to it."""
        member = self.member(name)
        held = sum([hold[2] for hold in self.holds().values() if hold[0] == name])
        pools, board, now = self._seen()
        return self._ledger.free(name), held, member.sure(pools, board, now)

    def tree(self):
        """The sum tree of all accounts by what they have free."""
        return Tree({name: self._ledger.free(name) for name in self._ledger.names()}, self._digest)

    def twin(self):
        """A yard that stands alike, and goes on by itself."""
        other = self._trial()
        other._log = self.log()
        return other

    def _begin(self):
        self._digest.start()
        k = len(self._log) // 2 + 1
        self._log.append(("begin", k))
        return k

    def _trial(self):
        """A yard that stands alike but for the log."""
        other = Yard(self._digest)
        other._stand_as(self)
        return other

    def _stand_as(self, other):
        self._ledger.stand_as(other._ledger)
        self._holds.stand_as(other._holds)
        self._clearing.stand_as(other._clearing)
        self._court.stand_as(other._court)
        for name, member in list(other._members.items()):
            if name not in self._members:
                self._members[name] = Member(name, {})
            self._members[name].stand_as(member)
        self._keys = dict(other._keys)
        self._lines = {pool: lines.twin() for pool, lines in other._lines.items()}
        self._deeds = list(other._deeds)

    def _do(self, deed):
        """Does a deed, of which a refusal may leave some: it is a trial's alone."""
        if not _is_deed(deed):
            raise NoDeed(0)
        word, *parts = deed
        done = DEEDS[word]
        told = done(self, *parts)
        self._deeds.append(_as_kept(deed))
        return told

    def _do_all(self, deeds):
        if not is_list(deeds):
            raise NoDeed(0)
        told = []
        for at, deed in enumerate(deeds):
            try:
                told.append(self._do(deed))
            except YardError:
                if self._digest.raised():
                    raise
                raise NoDeed(at) from None
        return told

    def _seen(self):
        """What a member sees: the pools, the board and the time."""
        return self.pools(), self.board(), self.now()

    def _lines_of(self, pool):
        if not is_number(pool) or pool not in self._lines:
            raise NoPool(pool)
        return self._lines[pool]

    def _key_of(self, name):
        return self._keys[name] if is_name(name) and name in self._keys else None

    def _follow(self, name, things):
        """Does what a member tells: at the court, and by messages to the others."""
        for thing in things:
            if thing[0] == "say":
                _, pool, message = thing
                lines = self._lines[pool]
                lines.put(1 - lines.party_of(name), message)
            else:
                self._at_court(thing)

    def _at_court(self, thing):
        """Does a member's thing at the court; what that refuses is passed by."""
        word, part = thing
        done = DEEDS[word]
        try:
            done(self, part)
        except YardError:
            if self._digest.raised():
                raise


def led(digest, deeds):
    """A new yard behind these deeds."""
    yard = Yard(digest)
    yard.all_done(deeds)
    return yard


def _is_deed(thing):
    """Whether thing is a deed's word with so many parts, of a party that can be."""
    if not isinstance(thing, tuple) or len(thing) == 0 or not isinstance(thing[0], str):
        return False
    word = thing[0]
    if word not in PARTS or len(thing) != 1 + PARTS[word]:
        return False
    return word not in UNDER_WAY or is_party(thing[2])


def _as_kept(deed):
    """A deed that was done, as nobody can change it any more."""
    if deed[0] == "forge":
        return *deed[:3], message_of(deed[3])
    if deed[0] == "agree":
        return *deed[:4], tuple(deed[4])
    return deed


def _enter(yard, name, key):
    yard._ledger.enter(name)
    if not is_key(key) or key in list(yard._keys.values()):
        raise NoSeal()
    yard._keys[name] = key
    yard._members[name] = Member(name, {})


def _put(yard, name, amount):
    yard._ledger.put(name, amount)


def _take(yard, name, amount):
    yard._ledger.take(name, amount)


def _order(yard, order):
    return yard._clearing.add(order)


def _drop(yard, number):
    yard._clearing.drop(number)


def _round(yard, how):
    return yard._clearing.round(how)


def _hold(yard, payer, payee, amount, ticks):
    # What is no number of ticks leads to no time either, but is the one that is told.
    until = yard.now() + ticks if is_count(ticks) else None
    try:
        return yard._holds.hold(payer, payee, amount, until)
    except NoTime:
        raise NoTime(ticks) from None


def _claim(yard, number, amount):
    yard._holds.claim(number, amount)


def _back(yard, number):
    yard._holds.drop(number)


def _found(yard, one, other, x, y, wait):
    names = (one, other)
    keys = [yard._key_of(name) for name in names]
    number = yard._court.found(one, other, x, y, keys, wait)
    for party in (0, 1):
        good = _good_of(keys[1 - party], yard._digest)
        partner = Partner(number, party, x, y, keys[party], good, yard._digest)
        yard._members[names[party]].gain(number, partner)
    yard._lines[number] = Lines(one, other)
    return number


def _good_of(key, digest):
    """What tells whether a seal is one of a text by this key."""
    return lambda text, seal: digest(sealed_text(text, key)) == seal


def _wish(yard, name, row):
    yard.member(name).wish(row)


def _act(yard, name):
    pools, board, now = yard._seen()
    told = yard.member(name).act(pools, board, now)
    yard._follow(name, told)
    return told


def _ends(yard, name):
    told = yard.member(name).ends(yard.pools())
    yard._follow(name, told)
    return told


def _arrive(yard, pool, party, at):
    lines = yard._lines_of(pool)
    message = lines.take(party, at)
    pools, board, now = yard._seen()
    told = yard.member(lines.name_of(party)).hear(pool, message, pools, board, now)
    if isinstance(told, tuple):
        lines.put(1 - party, told[2])
    return told


def _lose(yard, pool, party, at):
    yard._lines_of(pool).take(party, at)


def _copy(yard, pool, party, at):
    lines = yard._lines_of(pool)
    lines.put(party, lines.thing(party, at))


def _forge(yard, pool, party, message):
    yard._lines_of(pool).put(party, message_of(message))


def _post(yard, sealed):
    yard._court.post(sealed)


def _leave(yard, number):
    yard._court.leave(number)


def _agree(yard, number, x, y, seals):
    yard._court.agree(number, x, y, seals)


def _show(yard, secret):
    yard._court.show(secret)


def _tick(yard, n):
    if not is_count(n) or n > MOST_TICKS:
        raise NoTime(n)
    time = yard.now() + n
    over = yard._holds.on(time)
    yard._clearing.on(time)
    return over, yard._court.on(time)


DEEDS = {
    "enter": _enter, "put": _put, "take": _take, "order": _order, "drop": _drop, "round": _round,
    "hold": _hold, "claim": _claim, "back": _back, "found": _found, "wish": _wish, "act": _act, "ends": _ends,
    "arrive": _arrive, "lose": _lose, "copy": _copy, "forge": _forge,
    "post": _post, "leave": _leave, "agree": _agree, "show": _show, "tick": _tick,
}

# How many parts a deed has behind its word.
PARTS = {
    "enter": 2, "put": 2, "take": 2, "order": 1, "drop": 1, "round": 1,
    "hold": 4, "claim": 2, "back": 1, "found": 5, "wish": 2, "act": 1, "ends": 1,
    "arrive": 3, "lose": 3, "copy": 3, "forge": 3,
    "post": 1, "leave": 1, "agree": 4, "show": 1, "tick": 1,
}

# The deeds of which the second part is a party.
UNDER_WAY = ("arrive", "lose", "copy", "forge")
