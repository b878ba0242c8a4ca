"""Members: one name with all its pools, who keeps to the rules, has wishes, and hands payments on."""

from clearyard.errors import NoMove, NoName, NoPool
from clearyard.moves import mover
from clearyard.words import is_amount, is_digest, is_name, is_number, is_secret, is_time

# How many ticks a promise must have left when it is claimed, and when it is handed on.
TICKS_TO_CLAIM = 3
TICKS_TO_HAND = 6

# How many parts a wish has, its word among them.
PARTS = {"pay": 3, "send": 5, "hand": 5, "take": 2}


class Member:
    """A name that keeps to the rules in all its pools."""

    def __init__(self, name, partners):
        if not is_name(name):
            raise NoName(name)
        for number in sorted(partners):
            if not is_number(number) or partners[number].state()[1] != number:
                raise NoPool(number)
        self._name = name
        self._partners = partners
        self._wishes = []
        self._takes = {}
        # What was handed on: promises by their pool, mark and until.
        self._handed = {}

    def wish(self, row):
        """One wish more."""
        if not self._is_wish(row):
            raise NoMove()
        if row[0] == "take":
            self._takes[row[1]] = True
        else:
            self._wishes.append(row)

    def knows(self):
        """The secrets that it knows, rising."""
        secrets = list(self._takes)
        for partner in self._partners.values():
            secrets.extend(partner.knows())
        return sorted(set(secrets))

    def act(self, pools, board, now):
        """What its rules have it do now, in order."""
        # It is done at a twin: where the digest raises an error amid all that, nothing has changed here.
        twin = self.twin()
        told = twin._act(pools, board, now)
        self.stand_as(twin)
        return told

    def hear(self, pool, message, pools, board, now):
        """Hears a message in a pool: the reply to be said, "agreed", None."""
        if not self._has_pool(pool):
            raise NoPool(pool)
        reply = self._partners[pool].hear(message, pools, board, now)
        return ("say", pool, reply) if isinstance(reply, tuple) else reply

    def ends(self, pools):
        """What is to be done so that all its open pools end."""
        told = []
        for number in self._open(pools):
            sealed = self._partners[number].sealed()
            told.append(("leave", number) if sealed is None else ("post", sealed))
        return told

    def sure(self, pools, board, now):
        """What it ends with at least in all its pools together, whatever the others do."""
        return sum([partner.sure(pools, board, now) for partner in self._partners.values()])

    def gain(self, number, partner):
        """One pool more."""
        self._partners[number] = partner

    def twin(self):
        """A member that stands alike, and goes on by itself."""
        other = Member(self._name, {})
        other.stand_as(self)
        return other

    def stand_as(self, other):
        """From now on it stands as another one of the same name, who has all its pools, or more."""
        for number, partner in list(other._partners.items()):
            if number in self._partners:
                self._partners[number].stand_as(partner)
            else:
                self._partners[number] = partner.twin()
        self._wishes = list(other._wishes)
        self._takes = dict(other._takes)
        self._handed = {key: True for key in other._handed}

    def _has_pool(self, thing):
        return is_number(thing) and thing in self._partners

    def _is_wish(self, thing):
        if not isinstance(thing, tuple) or len(thing) == 0 or not isinstance(thing[0], str):
            return False
        word = thing[0]
        if word not in PARTS or len(thing) != PARTS[word]:
            return False
        if word == "take":
            return is_secret(thing[1])
        if not self._has_pool(thing[1]):
            return False
        if word == "pay":
            return is_amount(thing[2])
        if word == "send":
            return is_amount(thing[2]) and is_digest(thing[3]) and is_time(thing[4])
        return self._has_pool(thing[2]) and thing[2] != thing[1] and is_digest(thing[3]) and is_amount(thing[4])

    def _open(self, pools):
        """The numbers of its pools that are open, rising."""
        return [number for number in sorted(self._partners) if number in pools and pools[number][4] == "open"]

    def _act(self, pools, board, now):
        for secret in sorted(set([*self.knows(), *board])):
            for partner in self._partners.values():
                partner.learn(secret)
        told = []
        for number in sorted(self._partners):
            told.extend(self._partners[number].answer(pools, board, now))
        for number in self._open(pools):
            message = self._message(number, pools, board, now)
            if message is not None:
                told.append(("say", number, message))
        return told

    def _message(self, number, pools, board, now):
        """What it says in an open pool: the offer that waits, or a new one, None where it isn't its turn."""
        partner = self._partners[number]
        if partner.waiting() is not None:
            return partner.again()
        if mover(partner.state()) != partner.party():
            return None
        move = _claim(partner, board, now) or _late(partner, board, now)
        return partner.offer(move or self._wished(number, pools, now) or ("pass",), now)

    def _wished(self, number, pools, now):
        """The move by the first wish that can be done in this pool, which is done then, None where there is none."""
        partner = self._partners[number]
        for at, wish in enumerate(list(self._wishes)):
            move = self._move_by(wish, number, pools, now)
            if move is not None and partner.may_lead(move, now):
                self._fulfil(at, pools, now)
                return move
        return None

    def _move_by(self, wish, number, pools, now):
        """The move by which a wish would be done in this pool, None where it is none of this pool, or of no time."""
        if wish[0] == "hand":
            promise = self._to_hand_on(wish, pools, now)
            if wish[2] != number or promise is None:
                return None
            return "give", self._next_mark(number), wish[4], wish[3], promise[4]
        if wish[1] != number:
            return None
        return ("pay", wish[2]) if wish[0] == "pay" else ("give", self._next_mark(number), *wish[2:])

    def _next_mark(self, number):
        marks = [promise[0] for promise in self._partners[number].state()[5]]
        return max([0, *marks]) + 1

    def _to_hand_on(self, wish, pools, now):
        """The first promise to it of which such a wish may be done, None where there is none."""
        _, pool, _, lock, amount = wish
        if pool not in self._open(pools):
            return None
        partner = self._partners[pool]
        for mark, by, promised, its_lock, until in partner.state()[5]:
            fits = by != partner.party() and its_lock == lock and promised >= amount
            if fits and until >= now + TICKS_TO_HAND and (pool, mark, until) not in self._handed:
                return mark, by, promised, its_lock, until
        return None

    def _fulfil(self, at, pools, now):
        """A wish is one no more; what is handed on by it isn't handed on again."""
        wish = self._wishes[at]
        if wish[0] == "hand":
            promise = self._to_hand_on(wish, pools, now)
            self._handed[(wish[1], promise[0], promise[4])] = True
        del self._wishes[at]


def _claim(partner, board, now):
    """The claim of a promise to a partner that is due, None where there is none."""
    for promise in partner.state()[5]:
        mark, by, _, lock, until = promise
        if by != partner.party():
            known = partner.secret_of(lock) if now + TICKS_TO_CLAIM <= until else None
            secret = known or partner.shown(promise, board)
            if secret is not None:
                return "claim", mark, secret
    return None


def _late(partner, board, now):
    """What a partner takes back of its own promises that are over, None where there is nothing."""
    for promise in partner.state()[5]:
        mark, by, _, _, until = promise
        if by == partner.party() and until <= now and partner.shown(promise, board) is None:
            return "late", mark
    return None
