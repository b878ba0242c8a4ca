"""[92], [2] (a), (c): partners at a court, against others who post, show and say whatever they like."""

import copy
import random
import unittest

from clearyard.courts import Court
from clearyard.errors import YardError
from clearyard.ledger import Ledger, ledger_of
from clearyard.partners import Partner
from things import Case, digest

NAMES = ("ann", "bob")
KEYS = ("anns", "bobs")
SECRETS = ["s" + sign for sign in "abcdefghijklmnopqrstuvwxyz"]
LOCKS = {digest("lock " + secret): secret for secret in SECRETS}


def good_of(key):
    return lambda text, seal: seal == digest(key + " " + text)


class World:
    """A pool, the partner who keeps to the rules, and another one who knows all secrets and all that was ever sealed."""

    def __init__(self, chance):
        self.chance = chance
        self.ledger = Ledger()
        for name in NAMES:
            self.ledger.enter(name)
            self.ledger.put(name, 50)
        self.court = Court(self.ledger, digest)
        self.court.found(*NAMES, 30, 20, KEYS, chance.randint(2, 6))
        self.both = [Partner(1, party, 30, 20, KEYS[party], good_of(KEYS[1 - party]), digest) for party in (0, 1)]
        self.me = chance.randint(0, 1)
        self.sealed = []
        self.unlike = 0
        self.spent = 0

    def twin(self):
        """A world that goes on by itself."""
        other = copy.copy(self)
        other.ledger, other.court = copy.deepcopy((self.ledger, self.court))
        other.both = [one.twin() for one in self.both]
        other.sealed = list(self.sealed)
        return other

    @property
    def mine(self):
        return self.both[self.me]

    def ask(self):
        return self.court.pools(), self.court.board(), self.court.now()

    def sure(self):
        """What the one who keeps to the rules has free, and is sure of."""
        return self.ledger.free(NAMES[self.me]) + self.mine.sure(*self.ask())

    def answer(self):
        for deed in self.mine.answer(*self.ask()):
            try:
                getattr(self.court, deed[0])(deed[1])
            except YardError:
                pass

    def some_move(self, party):
        state = self.both[party].state()
        marks = [promise[0] for promise in state[5]]
        mark = self.chance.choice([1, *marks])
        secret = self.chance.choice([LOCKS[promise[3]] for promise in state[5]] + ["sa"])
        # Each promise has a lock of its own.
        lock = digest("lock " + SECRETS[self.unlike])
        give = ("give", max([0, *marks]) + 1, self.chance.randint(1, 6), lock, self.court.now() + self.chance.randint(4, 10))
        moves = [("pay", self.chance.randint(1, 6)), give, give, ("claim", mark, secret), ("claim", mark, secret), ("late", mark), ("pass",)]
        if party != self.me:
            moves.append(("back", mark))
        return self.chance.choice(moves)

    def say(self, party):
        """An offer by the one whose turn it is, heard at once or not at all, agreed at once or not yet."""
        one, other = self.both[party], self.both[1 - party]
        pools = self.court.pools()
        if 1 not in pools or pools[1][4] != "open":
            return
        move = self.some_move(party)
        try:
            message = one.again() or one.offer(move, self.court.now())
        except YardError:
            return
        if message[2] == move and move[0] == "give":
            self.unlike = min(self.unlike + 1, 25)
        if party == self.me and message[2] == move and move[0] in ("pay", "give"):
            self.spent += move[1] if move[0] == "pay" else move[2]
        if self.chance.random() < 0.8:
            reply = other.hear(message, *self.ask())
            if other.sealed() is not None and other.sealed() not in self.sealed:
                self.sealed.append(other.sealed())
            if reply is not None and self.chance.random() < 0.8:
                one.hear(reply, *self.ask())

    def all_sealed(self):
        """All that the other one can post: what was agreed, and what waits with its own seal to it."""
        waiting = self.mine.waiting()
        if waiting is None:
            return self.sealed
        text = self.mine.again()[3]
        other = self.both[1 - self.me]._seal(waiting)
        return self.sealed + [(waiting, text, other) if self.me == 0 else (waiting, other, text)]

    def end(self, each_tick):
        """Goes on till the pool is none, answering at each tick: what the one who keeps to the rules has then."""
        while self.court.pools():
            each_tick(self)
            self.answer()
            self.court.on(self.court.now() + 1)
            if self.court.now() > 200:
                raise AssertionError("no end")
        return self.ledger.free(NAMES[self.me])


def some_world(seed, steps):
    """Worlds as they stand, behind an answer that was done, the pool still open."""
    world = World(random.Random(seed))
    for _ in range(steps):
        for _ in range(2):
            world.say(world.chance.randint(0, 1))
        if world.chance.random() < 0.3:
            world.mine.learn(world.chance.choice(SECRETS[:max(1, world.unlike)]))
        if world.chance.random() < 0.1:
            world.court.show(world.chance.choice(SECRETS[:max(1, world.unlike)]))
        world.answer()
        yield world
        world.court.on(world.court.now() + world.chance.randint(0, 1))
        world.answer()


class Sure(Case):

    def worst(self, world):
        """The least that is left by a post of anything, or a leave, where of its own promises all secrets are shown."""
        ends = []
        for sealed in [None, *world.all_sealed()]:
            other = world.twin()
            if sealed is None:
                other.court.leave(1)
            else:
                other.court.post(sealed)
            ends.append(other.end(self.show_against))
        return min(ends)

    def show_against(self, world):
        for _, _, _, state, _, _ in world.court.pools().values():
            for _, by, _, lock, _ in state[5]:
                if by == world.me:
                    world.court.show(LOCKS[lock])

    def test_told_exactly_while_the_pool_is_open(self):
        seen, many = set(), 0
        for seed in range(60):
            for world in some_world(seed, 14):
                if world.unlike < 25:
                    many += 1
                    self.assertEqual(self.worst(world), world.sure(), seed)
                    mine, other = world.mine.state(), world.mine.waiting()
                    seen.update((promise[1] == world.me, promise[4] <= world.court.now()) for promise in mine[5])
                    seen.add(("waiting", other is not None))
        self.assertGreater(many, 500)
        self.assertEqual(len(seen), 6)

    def spoil(self, world):
        """Whatever another one may do at any time."""
        chance = world.chance
        word = chance.choice(("post", "post", "leave", "show", "show", "say", "none"))
        try:
            if word == "post" and world.all_sealed():
                world.court.post(chance.choice(world.all_sealed()))
            if word == "leave":
                world.court.leave(1)
            if word == "show":
                world.court.show(chance.choice(SECRETS[:max(1, world.unlike)]))
            if word == "say":
                world.say(chance.randint(0, 1))
        except YardError:
            pass

    def test_it_falls_by_its_own_pays_and_promises_alone(self):
        """At each step, closing, closed or none any more, and behind all ends it has no less."""
        ways = set()
        for seed in range(150):
            chance = random.Random(seed)
            for world in some_world(seed, chance.randint(1, 16)):
                pass
            while world.court.pools():
                before, spent = world.sure(), world.spent
                self.spoil(world)
                world.answer()
                self.assertGreaterEqual(world.sure() + world.spent - spent, before, seed)
                ways.add(world.court.pools()[1][4])
                before = world.sure()
                world.court.on(world.court.now() + 1)
                self.assertGreaterEqual(world.sure(), before, seed)
                if world.court.now() > 80 and 1 in world.court.pools() and world.court.pools()[1][4] == "open":
                    world.court.leave(1)
                free = [world.ledger.free(name) for name in NAMES]
                self.assertEqual(sum(free) + sum(world.ledger.pots().values()), 100)
            self.assertEqual(ledger_of(world.ledger.rows()), world.ledger)
            self.assertEqual(world.sure(), world.ledger.free(NAMES[world.me]))
        self.assertEqual(ways, {"open", "closing", "closed"})


if __name__ == "__main__":
    unittest.main()
