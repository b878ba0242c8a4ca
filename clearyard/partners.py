"""Partners: how a party of a pool pays the other by sealed states, and what is sure to it."""

from clearyard.courts import opener
from clearyard.errors import NoMove, NoSeal, NoState, NotNow
from clearyard.moves import is_move, led_to, mover, promise_of
from clearyard.seals import has_seals, lock_of, seal_of
from clearyard.states import are_stakes, first_state, is_party, state_text, worth
from clearyard.words import is_alike, is_count, is_digest, is_key, is_number, is_secret

# How many ticks a promise must have left when it is given, and a secret to be shown in time.
TICKS_TO_GIVE = 4
TICKS_TO_SHOW = 2


class Partner:
    """One party's side of a pool."""

    def __init__(self, pool, party, x, y, key, good, digest):
        if not is_count(pool) or not is_party(party) or not are_stakes(x, y):
            raise NoState()
        if not is_key(key):
            raise NoSeal()
        self._first = first_state(pool, x, y)
        self._party = party
        self._key = key
        self._good = good
        self._digest = digest
        self._agreed = self._first
        self._seals = None
        # The other's offer by which the agreed state came: where it is heard once more, it is answered once more.
        self._came = None
        self._offer = None
        self._waiting = None
        self._known = {}

    def learn(self, secret):
        """It knows that secret from now on."""
        if not is_secret(secret):
            raise NoSeal()
        self._known[secret] = True

    def offer(self, move, now):
        """Offers the state that a move leads to: the message."""
        if self._waiting is not None or mover(self._agreed) != self._party:
            raise NotNow()
        state = self._own_led_to(move)
        if state is None:
            raise NoMove()
        if not self._may_offer(move, now):
            raise NotNow()
        message = ("offer", state[2], move, self._seal(state))
        self._offer = message
        self._waiting = state
        return message

    def hear(self, message, pools, board, now):
        """Hears a message: the reply to an offer, "agreed" of what was waiting, None of all else."""
        if self._came is not None and is_alike(message, self._came):
            return self._reply()
        if _is_message(message, "offer", 4):
            return self._hear_offer(message, pools, board, now)
        if _is_message(message, "agree", 3):
            return self._hear_agree(message)
        return None

    def state(self):
        """The agreed state."""
        return self._agreed

    def waiting(self):
        """The state that was offered, None."""
        return self._waiting

    def sealed(self):
        """The agreed state with both seals, None of the first one."""
        return None if self._seals is None else (self._agreed, *self._seals)

    def again(self):
        """The offer that waits, None."""
        return self._offer

    def knows(self):
        """The secrets that it knows, rising."""
        return sorted(self._known)

    def sure(self, pools, board, now):
        """What it ends with at least, whatever the other one does."""
        number = self._agreed[1]
        if number not in pools:
            return 0
        stands, status = pools[number][3:5]
        if status == "closed":
            return self._sure_of_promises(stands, board, now)
        sums = [state[3 + self._party] + self._sure_of_promises(state, board, now) for state in self._states()]
        return min(sums)

    def told(self):
        """All it keeps as one tuple."""
        _, pool, _, x, y, _ = self._first
        came = None if self._came is None else self._came[2]
        offered = None if self._offer is None else self._offer[2]
        return ("partner", pool, self._party, x, y, self._key, self.sealed(), came, offered, tuple(self.knows()))

    def twin(self):
        """A partner that stands alike, and goes on by itself."""
        _, pool, _, x, y, _ = self._first
        other = Partner(pool, self._party, x, y, self._key, self._good, self._digest)
        other.stand_as(self)
        return other

    def stand_as(self, other):
        """From now on it stands as another one of the same party of the same pool."""
        self._agreed = other._agreed
        self._seals = other._seals
        self._came = other._came
        self._offer = other._offer
        self._waiting = other._waiting
        self._known = dict(other._known)

    def answer(self, pools, board, now):
        """What is to be done at the court now, in order."""
        deeds = []
        states = self._states()
        if self._agreed[1] in pools:
            stands, status = pools[self._agreed[1]][3:5]
            states.append(stands)
            if status == "closing" and stands[2] < self._agreed[2]:
                deeds.append(("post", self.sealed()))
        locks = self._locks_to_show(states, now)
        for secret in self.knows():
            if secret not in board and locks and lock_of(secret, self._digest) in locks:
                deeds.append(("show", secret))
        return deeds

    def party(self):
        """Which party of its pool it is."""
        return self._party

    def may_lead(self, move, now):
        """Whether a move of its own leads on from the agreed state, and may be offered at this time."""
        return self._own_led_to(move) is not None and self._may_offer(move, now)

    def shown(self, promise, board):
        """The least secret of a promise's lock that was shown ahead of its until, None."""
        return opener(board, promise[3], promise[4], self._digest)

    def secret_of(self, lock):
        """The least secret that it knows of a lock, None."""
        for secret in self.knows():
            if lock_of(secret, self._digest) == lock:
                return secret
        return None

    def _own_led_to(self, move):
        """The state that a move of its own leads the agreed one to, None where there is none."""
        return led_to(self._agreed, self._party, move, self._digest)

    def _seal(self, state):
        return seal_of(state, self._key, self._digest)

    def _states(self):
        """The states by which it may end: the agreed one, and the one that waits."""
        return [self._agreed] if self._waiting is None else [self._agreed, self._waiting]

    def _reply(self):
        return "agree", self._agreed[2], self._seals[self._party]

    def _may_offer(self, move, now):
        if move[0] == "give":
            return now + TICKS_TO_GIVE <= move[4]
        if move[0] == "late":
            return promise_of(self._agreed, move[1], self._party)[4] <= now
        return True

    def _hear_offer(self, message, pools, board, now):
        number = self._agreed[1]
        _, turn, move, seal = message
        if number not in pools or pools[number][4] != "open":
            return None
        if not is_number(turn) or turn != self._agreed[2] + 1 or not is_digest(seal):
            return None
        state = led_to(self._agreed, 1 - self._party, move, self._digest)
        if state is None or not self._may_take(move, board, now) or not self._is_others(state, seal):
            return None
        own = self._seal(state)
        if move[0] == "claim" and self._is_in_time(move, now):
            self._known[move[2]] = True
        self._agree_to(state, own, seal)
        self._came = message
        return self._reply()

    def _hear_agree(self, message):
        _, turn, seal = message
        if self._waiting is None or not is_number(turn) or turn != self._waiting[2] or not is_digest(seal):
            return None
        if not self._is_others(self._waiting, seal):
            return None
        self._agree_to(self._waiting, self._offer[3], seal)
        self._came = None
        return "agreed"

    def _is_others(self, state, seal):
        good = self._good
        return good(state_text(state), seal)

    def _agree_to(self, state, own, others):
        self._agreed = state
        self._seals = (own, others) if self._party == 0 else (others, own)
        self._offer = None
        self._waiting = None

    def _may_take(self, move, board, now):
        word = move[0]
        if word == "give":
            return now + TICKS_TO_GIVE <= move[4]
        if word == "claim":
            return self._is_in_time(move, now) or self.shown(self._promise(move), board) is not None
        if word == "late":
            promise = self._promise(move)
            return promise[4] <= now and self.shown(promise, board) is None
        return True

    def _promise(self, move):
        """The promise in the agreed state that the other's claim or late is of."""
        by = self._party if move[0] == "claim" else 1 - self._party
        return promise_of(self._agreed, move[1], by)

    def _is_in_time(self, move, now):
        """Whether a secret that is claimed by may still be shown."""
        return now + TICKS_TO_SHOW <= self._promise(move)[4]

    def _sure_of_promises(self, state, board, now):
        return sum([promise[2] for promise in state[5] if self._is_sure(promise, board, now)])

    def _is_sure(self, promise, board, now):
        """Whether what was promised is this party's in the end, whatever the other one does."""
        _, by, _, lock, until = promise
        if self.shown(promise, board) is not None:
            return by != self._party
        if by == self._party:
            return until <= now
        return now + TICKS_TO_SHOW <= until and self.secret_of(lock) is not None

    def _locks_to_show(self, states, now):
        """The locks of promises to it of which it is high time to show a secret."""
        locks = {}
        for state in states:
            for _, by, _, lock, until in state[5]:
                if by != self._party and now < until <= now + TICKS_TO_SHOW:
                    locks[lock] = True
        return locks


def _is_message(thing, word, many):
    return isinstance(thing, tuple) and len(thing) == many and thing[0] == word


def partner_of(told, good, digest):
    """The partner that tells this."""
    if not isinstance(told, tuple) or len(told) != 10 or told[0] != "partner" or not is_key(told[5]):
        raise NoState()
    _, pool, party, x, y, key, sealed, came, offered, knows = told
    partner = Partner(pool, party, x, y, key, good, digest)
    if not _are_secrets(knows) or not _seal_again(partner, sealed, came) or not _offer_again(partner, offered):
        raise NoState()
    for secret in knows:
        partner.learn(secret)
    return partner


def _are_secrets(thing):
    """Whether thing is a tuple of secrets, rising."""
    if not isinstance(thing, tuple) or not all([is_secret(secret) for secret in thing]):
        return False
    return list(thing) == sorted(set(thing))


def _seal_again(partner, sealed, came):
    """Leads a partner to its agreed state: whether it can have come there, by such a move."""
    if sealed is None:
        return came is None
    if not has_seals(sealed) or not _is_behind(sealed[0], partner._first):
        return False
    state = sealed[0]
    own, others = sealed[1 + partner._party], sealed[2 - partner._party]
    # Whose turn it is now has heard the offer of the state, and keeps it; who offered it keeps none.
    heard = mover(state) == partner._party
    if heard != is_move(came) or not heard and came is not None:
        return False
    if own != partner._seal(state) or not partner._is_others(state, others):
        return False
    partner._agree_to(state, own, others)
    if heard:
        partner._came = ("offer", state[2], came, others)
    return True


def _is_behind(state, first):
    return state[1] == first[1] and state[2] > 0 and worth(state) == worth(first)


def _offer_again(partner, offered):
    """Offers once more what waits: whether it can be."""
    if offered is None:
        return True
    state = partner._own_led_to(offered)
    # No time is 4 ticks ahead of one that is less than that.
    if state is None or offered[0] == "give" and offered[4] < TICKS_TO_GIVE:
        return False
    partner._offer = ("offer", state[2], offered, partner._seal(state))
    partner._waiting = state
    return True
