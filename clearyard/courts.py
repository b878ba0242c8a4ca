"""The court: pools of two parties, the states that stand there, and the secrets shown to all."""

from clearyard.errors import Done, NoAmount, NoName, NoPool, NoSeal, NoState, NoTime
from clearyard.seals import are_seals, has_seals, is_sealed, lock_of
from clearyard.states import are_stakes, first_state, worth
from clearyard.words import is_key, is_list, is_number, is_secret, is_time, is_whole

LEAST_WAIT = 2
MOST_WAIT = 100


class Court:
    """The pools at one ledger, their time, and the board of secrets."""

    def __init__(self, ledger, digest):
        self._ledger = ledger
        self._digest = digest
        self._now = 0
        self._board = {}
        self._pools = {}
        self._keys = {}

    def found(self, one, other, x, y, keys, wait):
        """One and other put in x and y: the number of their pool."""
        # Both are asked for the sake of the refusal alone.
        self._ledger.free(one)
        self._ledger.free(other)
        if other == one:
            raise NoName(other)
        if not are_stakes(x, y):
            raise NoAmount()
        if not is_list(keys) or len(keys) != 2 or not all([is_key(key) for key in keys]) or keys[0] == keys[1]:
            raise NoSeal()
        if not is_number(wait) or not LEAST_WAIT <= wait <= MOST_WAIT:
            raise NoTime(wait)
        number = self._ledger.lock(_parts((one, other), (x, y)))
        self._pools[number] = (one, other, wait, first_state(number, x, y), "open", None)
        self._keys[number] = tuple(keys)
        return number

    def post(self, sealed):
        """A sealed state stands from now on; what was open is closing."""
        if not has_seals(sealed) or sealed[0][2] == 0:
            raise NoState()
        state = sealed[0]
        number = state[1]
        stands, status = self._alive(number)[3:5]
        if worth(state) != self._ledger.pot(number):
            raise NoState()
        if not is_sealed(sealed, self._keys[number], self._digest):
            raise NoSeal()
        if status == "closing" and stands[2] >= state[2]:
            raise Done(number)
        self._close_by(number, state)

    def leave(self, number):
        """An open pool is closing, by its first state."""
        stands, status = self._pool(number)[3:5]
        if status != "open":
            raise Done(number)
        self._close_by(number, stands)

    def agree(self, number, x, y, seals):
        """Both share all at once, whatever stands."""
        one, other = self._alive(number)[:2]
        if not is_whole(x) or not is_whole(y) or x + y != self._ledger.pot(number):
            raise NoAmount()
        if not are_seals(close_text(number, x, y), seals, self._keys[number], self._digest):
            raise NoSeal()
        self._ledger.share(number, _parts((one, other), (x, y)))
        self._forget(number)

    def show(self, secret):
        """A secret stands on the board from now on."""
        if not is_secret(secret):
            raise NoSeal()
        if secret not in self._board:
            self._board[secret] = self._now

    def on(self, time):
        """Time goes on, and what is over or opened goes: the triples (pool, name, amount)."""
        if not is_time(time) or time < self._now:
            raise NoTime(time)
        # All that is asked of the digest is asked ahead: where it raises an error, nothing has changed.
        plans = [self._plan(number, time) for number in sorted(self._pools)]
        self._now = time
        told = []
        for number, pool, gains in plans:
            told.extend(self._carry_out(number, pool, gains))
        return told

    def now(self):
        """The time."""
        return self._now

    def board(self):
        """The secrets that were shown, rising, and when each was first."""
        return {secret: self._board[secret] for secret in sorted(self._board)}

    def pools(self):
        """All pools, (one, other, wait, state, status, end) by their numbers, rising."""
        return {number: self._pools[number] for number in sorted(self._pools)}

    def opened(self, lock, until):
        """The least secret of that lock that was shown ahead of until, None."""
        return opener(self._board, lock, until, self._digest)

    def stand_as(self, other):
        """From now on it stands as another one, at a ledger that stands as the other's."""
        self._now = other._now
        self._board = dict(other._board)
        self._pools = dict(other._pools)
        self._keys = dict(other._keys)

    def _pool(self, number):
        if not is_number(number) or number not in self._pools:
            raise NoPool(number)
        return self._pools[number]

    def _alive(self, number):
        """A pool that isn't closed."""
        pool = self._pool(number)
        if pool[4] == "closed":
            raise Done(number)
        return pool

    def _close_by(self, number, state):
        one, other, wait, _, status, end = self._pools[number]
        if status == "open":
            end = self._now + wait
        self._pools[number] = (one, other, wait, state, "closing", end)

    def _forget(self, number):
        del self._pools[number]
        del self._keys[number]

    def _plan(self, number, time):
        """How a pool stands at time, and what its parties get till then."""
        one, other, wait, state, status, end = self._pools[number]
        gains = [0, 0]
        if status == "open" or status == "closing" and end > time:
            return number, self._pools[number], gains
        if status == "closing":
            gains = list(state[3:5])
        left = []
        for promise in state[5]:
            party = self._goes_to(promise, time)
            if party is None:
                left.append(promise)
            else:
                gains[party] += promise[2]
        return number, (one, other, wait, (*state[:5], tuple(left)), "closed", end), gains

    def _goes_to(self, promise, time):
        """The party that gets what was promised, None where that isn't settled at time."""
        _, by, _, lock, until = promise
        if self.opened(lock, until) is not None:
            return 1 - by
        return by if until <= time else None

    def _carry_out(self, number, pool, gains):
        self._pools[number] = pool
        parts = _parts(pool[:2], gains)
        if parts:
            self._ledger.share(number, parts)
        if pool[4] == "closed" and len(pool[3][5]) == 0:
            self._forget(number)
        return [(number, name, amount) for name, amount in parts]


def close_text(number, x, y):
    """The text by which both agree to share."""
    return " ".join(["close", str(number), str(x), str(y)])


def opener(board, lock, until, digest):
    """The least secret on a board of that lock that was shown ahead of until, None."""
    for secret in sorted(board):
        if board[secret] < until and lock_of(secret, digest) == lock:
            return secret
    return None


def _parts(names, amounts):
    """Pairs of names and amounts, noughts left out."""
    return [(name, amount) for name, amount in zip(names, amounts) if amount > 0]
