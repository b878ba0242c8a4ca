"""[112], [2] (a), (c), (d): members at a court over many ticks, among their like and against others who do whatever they like."""

import random
import unittest

from clearyard.courts import Court
from clearyard.errors import YardError
from clearyard.ledger import Ledger, ledger_of
from clearyard.members import Member
from clearyard.moves import moved
from clearyard.partners import Partner
from clearyard.states import state_text
from things import Case, digest

NAMES = ("ann", "bob", "cid", "dan")
KEYS = {"ann": "anns", "bob": "bobs", "cid": "cids", "dan": "dans"}
SECRETS = ["s" + sign for sign in "abcdefghijklmnopqrstuvwxyz"]
LOCKS = [digest("lock " + secret) for secret in SECRETS]


def good_of(key):
    return lambda text, seal: seal == digest(key + " " + text)


def seal(key, state):
    return digest(key + " " + state_text(state))


class Net(Case):
    """Names with 100 each at a ledger, and pools of theirs at a court."""

    def start(self, names, pairs, wait=4):
        self.names, self.ledger = names, Ledger()
        for name in names:
            self.ledger.enter(name)
            self.ledger.put(name, 100)
        self.court = Court(self.ledger, digest)
        self.pairs = {}
        partners = {name: {} for name in names}
        for one, other in pairs:
            number = self.court.found(one, other, 15, 15, [KEYS[one], KEYS[other]], wait)
            self.pairs[number] = (one, other)
            for party, name in enumerate((one, other)):
                good = good_of(KEYS[self.pairs[number][1 - party]])
                partners[name][number] = Partner(number, party, 15, 15, KEYS[name], good, digest)
        self.partners = partners
        self.members = {name: Member(name, partners[name]) for name in names}

    def seen(self):
        return self.court.pools(), self.court.board(), self.court.now()

    def at_court(self, thing):
        try:
            getattr(self.court, thing[0])(thing[1])
        except YardError:
            pass

    def has(self, name):
        """What a name has free, and what is sure to it."""
        return self.ledger.free(name) + self.members[name].sure(*self.seen())

    def sums(self):
        self.assertEqual(sum(map(self.ledger.free, self.names)) + sum(self.ledger.pots().values()), 100 * len(self.names))


class AmongTheirLike(Net):

    def follow(self, name, things, chance, lines, often):
        for thing in things:
            if thing[0] == "say":
                _, number, message = thing
                lines[number, self.pairs[number][0] == name].extend([message] * chance.choice(often))
            else:
                self.at_court(thing)

    def arrive(self, chance, lines, often, late):
        for (number, to_other), line in lines.items():
            name = self.pairs[number][to_other]
            if late:
                chance.shuffle(line)
            while line and not (late and chance.random() < 0.3):
                told = self.members[name].hear(number, line.pop(0), *self.seen())
                if isinstance(told, tuple):
                    self.follow(name, [told], chance, lines, often)

    def run_on(self, ticks, chance, often=(1,), late=False):
        lines = {(number, to_other): [] for number in self.pairs for to_other in (False, True)}
        for _ in range(ticks):
            self.court.on(self.court.now() + 1)
            for name in self.names:
                self.follow(name, self.members[name].act(*self.seen()), chance, lines, often)
            self.arrive(chance, lines, often, late)
            self.arrive(chance, lines, often, late)
            self.sums()

    def end(self):
        """All end: what each is sure of ahead of it it has at last, or more."""
        sure = {name: self.has(name) for name in self.names}
        for name in self.names:
            for thing in self.members[name].ends(self.court.pools()):
                self.at_court(thing)
        while self.court.pools():
            self.court.on(self.court.now() + 1)
            for name in self.names:
                for thing in self.members[name].act(*self.seen()):
                    if thing[0] != "say":
                        self.at_court(thing)
            self.assertLess(self.court.now(), 300)
        for name in self.names:
            self.assertGreaterEqual(self.ledger.free(name), sure[name])
        self.assertEqual(ledger_of(self.ledger.rows()), self.ledger)
        return [self.ledger.free(name) for name in self.names]

    def test_two_with_pays(self):
        self.start(NAMES[:2], [("ann", "bob")])
        for row in (("pay", 1, 5), ("pay", 1, 7)):
            self.members["ann"].wish(row)
        self.members["bob"].wish(("pay", 1, 1))
        self.run_on(9, random.Random(0))
        self.assertEqual([self.has(name) for name in self.names], [89, 111])
        self.assertEqual(self.end(), [89, 111])

    def test_two_with_a_send(self):
        for known, left in ((True, [92, 108]), (False, [100, 100])):
            self.start(NAMES[:2], [("bob", "ann")])
            self.members["ann"].wish(("send", 1, 8, LOCKS[0], 12))
            if known:
                self.members["bob"].wish(("take", SECRETS[0]))
            self.run_on(20, random.Random(0))
            self.assertEqual([self.members[name].knows() for name in self.names], [[SECRETS[0]] * known] * 2)
            self.assertEqual(self.end(), left)

    def along(self, many, takes, until=24):
        """A payment of 10 from the first to the last, a fee of 1 for each between."""
        names = NAMES[:many]
        self.start(names, [pair if at % 2 == 0 else pair[::-1] for at, pair in enumerate(zip(names, names[1:]))])
        self.members["ann"].wish(("send", 1, 8 + many, LOCKS[0], until))
        for at in range(1, many - 1):
            self.members[names[at]].wish(("hand", at, at + 1, LOCKS[0], 8 + many - at))
        if takes:
            self.members[names[-1]].wish(("take", SECRETS[0]))

    def test_three_and_four_in_a_row(self):
        for many in (3, 4):
            for takes in (True, False):
                self.along(many, takes)
                self.run_on(40, random.Random(0))
                left = [100 - 8 - many, *[101] * (many - 2), 110] if takes else [100] * many
                self.assertEqual([self.has(name) for name in self.names], left)
                self.assertEqual(self.end(), left)

    def test_messages_lost_doubled_and_late(self):
        """Who hands on has its fee, or nothing has gone: done at all members or at none."""
        ends = set()
        for seed in range(120):
            chance = random.Random(seed)
            many = chance.randint(2, 4)
            self.along(many, chance.random() < 0.8, until=chance.randint(16, 24))
            self.run_on(30, chance, often=chance.choice(((0, 1), (1, 1, 2), (0, 1, 2))), late=True)
            left = self.end()
            self.assertIn(left, ([100 - 8 - many, *[101] * (many - 2), 110], [100] * many))
            if left[0] < 100:
                # Who pays has the secret as its receipt.
                self.assertIn(SECRETS[0], self.members["ann"].knows())
            ends.add((many, left[0] < 100))
        self.assertEqual(len(ends), 6)

    def test_many_payments_all_ways(self):
        """A ring of four, drawn wishes: nobody who only hands on has less, whatever becomes of the messages."""
        for seed in range(60):
            chance = random.Random(seed)
            self.start(NAMES, [("ann", "bob"), ("bob", "cid"), ("dan", "cid"), ("dan", "ann")])
            spent = dict.fromkeys(NAMES, 0)
            self.drawn_wishes(chance, spent)
            self.run_on(chance.randint(5, 40), chance, often=chance.choice(((1,), (0, 1), (0, 1, 1, 2))), late=chance.random() < 0.7)
            for name, left in zip(NAMES, self.end()):
                self.assertGreaterEqual(left + spent[name], 100, (seed, name))

    def drawn_wishes(self, chance, spent):
        own = {name: [number for number, pair in self.pairs.items() if name in pair] for name in NAMES}
        for _ in range(chance.randint(1, 12)):
            name, at = chance.choice(NAMES), chance.randrange(5)
            amount, until = chance.randint(1, 12), chance.randint(5, 30)
            word = chance.choice(("pay", "send", "send", "hand", "hand", "hand", "take"))
            one, other = chance.sample(own[name], 2)
            row = {
                "pay": ("pay", one, amount), "send": ("send", one, amount, LOCKS[at], until), "hand": ("hand", one, other, LOCKS[at], amount),
                "take": ("take", SECRETS[at]),
            }[word]
            spent[name] += amount if word in ("pay", "send") else 0
            self.members[name].wish(row)


class Against(Net):
    """Ann keeps to the rules; the others know all secrets, and all that was ever sealed, and do whatever they like."""

    def begin(self, chance):
        others = NAMES[1:chance.randint(2, 4)]
        self.chance = chance
        self.start(("ann", *others), [chance.choice((("ann", name), (name, "ann"))) for name in others for _ in range(chance.randint(1, 2))], chance.randint(2, 6))
        self.mine, self.ann = self.partners["ann"], self.members["ann"]
        self.sealed = {number: [] for number in self.mine}
        # How often the others do anything at the court.
        self.spite = chance.choice((0, 0.01, 0.05))

    def other_key(self, number):
        one, other = self.pairs[number]
        return KEYS[other if one == "ann" else one]

    def seals(self, number, state, anns):
        both = (anns, seal(self.other_key(number), state))
        return (state, *both) if self.mine[number].party() == 0 else (state, *both[::-1])

    def gather(self):
        """All that has ann's seal is kept by the others, with theirs."""
        for number, partner in self.mine.items():
            for state in (partner.state(), partner.waiting()):
                if state is not None and state[2] > 0:
                    sealed = self.seals(number, state, seal("anns", state))
                    if sealed not in self.sealed[number]:
                        self.sealed[number].append(sealed)

    def some_move(self, number):
        chance, state = self.chance, self.mine[number].state()
        marks = [promise[0] for promise in state[5]]
        mark = chance.choice([1, *marks])
        promised = [at for at, lock in enumerate(LOCKS) for promise in state[5] if promise[3] == lock]
        secret = SECRETS[chance.choice([0, *promised, *promised])]
        lock = LOCKS[chance.randrange(3)]
        give = ("give", max([0, *marks]) + 1, chance.randint(1, 9), lock, self.court.now() + chance.choice((3, 4, 5, 6, 7, 8, 9, 12, 15)))
        return chance.choice((("pay", chance.randint(1, 5)), give, give, give, ("claim", mark, secret), ("claim", mark, secret), ("late", mark), ("back", mark), ("pass",), ("pass",)))

    def offer(self, number):
        """An offer to ann by any move, heard at once; or anything else."""
        partner = self.mine[number]
        state, party = partner.state(), 1 - partner.party()
        move = self.some_move(number)
        try:
            after = moved(state, party, move, digest)
        except YardError:
            return
        self.ann.hear(number, ("offer", after[2], move, seal(self.other_key(number), after)), *self.seen())

    def agree(self, number):
        waiting = self.mine[number].waiting()
        if waiting is not None:
            self.ann.hear(number, ("agree", waiting[2], seal(self.other_key(number), waiting)), *self.seen())

    def spoil(self):
        """What the others do between two acts."""
        chance = self.chance
        for _ in range(chance.randint(0, 8)):
            number = chance.choice(list(self.mine))
            word = chance.choice(("offer", "agree"))
            if chance.random() < self.spite:
                word = chance.choice(("post", "leave", "show", "show"))
            if word == "offer":
                self.offer(number)
            elif word == "agree":
                self.agree(number)
            elif word == "post" and self.sealed[number]:
                self.at_court(("post", chance.choice(self.sealed[number])))
            elif word == "leave":
                self.at_court(("leave", number))
            elif word == "show":
                self.at_court(("show", SECRETS[chance.randrange(3)]))
            self.gather()

    def act(self):
        """Ann acts: what she pays, sends and hands on by offers that didn't wait till now."""
        waited = {number: partner.again() for number, partner in self.mine.items()}
        spent = {"pay": 0, "give": 0}
        for thing in self.ann.act(*self.seen()):
            if thing[0] != "say":
                self.at_court(thing)
            elif waited[thing[1]] is None and thing[2][2][0] in spent:
                move = thing[2][2]
                spent[move[0]] += move[1] if move[0] == "pay" else move[2]
        self.gather()
        return sum(spent.values())

    def tick(self):
        """From one act to the next: what is sure and free falls by no more than what is spent."""
        before = self.has("ann")
        self.spoil()
        self.court.on(self.court.now() + 1)
        self.assertGreaterEqual(self.has("ann"), before)
        self.spoil()
        self.assertGreaterEqual(self.has("ann"), before)
        spent = self.act()
        self.assertGreaterEqual(self.has("ann") + spent, before)
        self.sums()
        return spent

    def wish(self, words):
        chance = self.chance
        word = chance.choice(words)
        numbers = list(self.mine)
        if word == "hand" and len(numbers) > 1:
            one, other = chance.sample(numbers, 2)
            self.ann.wish(("hand", one, other, LOCKS[chance.randrange(3)], chance.randint(1, 6)))
        elif word == "take":
            self.ann.wish(("take", SECRETS[chance.randrange(4)]))
        elif word == "pay":
            self.ann.wish(("pay", chance.choice(numbers), chance.randint(1, 6)))
        elif word == "send":
            self.ann.wish(("send", chance.choice(numbers), chance.randint(1, 6), LOCKS[chance.randrange(3)], self.court.now() + chance.randint(3, 12)))

    def play(self, seed, words):
        """Many ticks, then all ends: what ann has at last, and what she spent by pays and sends."""
        chance = random.Random(seed)
        self.begin(chance)
        spent = 0
        for _ in range(chance.randint(5, 40)):
            if chance.random() < 0.7:
                self.wish(words)
            spent += self.tick()
        for thing in self.ann.ends(self.court.pools()):
            self.at_court(thing)
        sure = self.has("ann")
        while any("ann" in pool[:2] for pool in self.court.pools().values()):
            spent_now = self.tick()
            self.assertEqual(spent_now, 0)
            self.assertLess(self.court.now(), 300)
        self.assertGreaterEqual(self.ledger.free("ann"), sure)
        return self.ledger.free("ann"), spent

    def test_who_wishes_no_pay_and_no_send_ends_with_no_less(self):
        hands = opened = 0
        for seed in range(250):
            left, handed = self.play(seed, ("hand",) * 20 + ("take",))
            self.assertGreaterEqual(left, 100, seed)
            hands += handed > 0
            opened += any(SECRETS[at] in self.ann.knows() for at in range(3)) and handed > 0
        self.assertGreater(hands, 90)
        self.assertGreater(opened, 25)

    def mean_move(self, number):
        """A move by which nothing is given away: a promise by a secret that ann can't know yet, or a claim of one of hers."""
        chance, state = self.chance, self.mine[number].state()
        party = self.mine[number].party()
        for mark, by, _, lock, until in state[5]:
            if by == party and chance.random() < self.haste:
                return "claim", mark, SECRETS[LOCKS.index(lock)]
            if by != party and until <= self.court.now():
                return "late", mark
        hidden = [at for at in range(4) if SECRETS[at] not in self.ann.knows() and SECRETS[at] not in self.court.board()]
        if not hidden or chance.random() < 0.2:
            return ("pass",)
        mark = max([0, *[promise[0] for promise in state[5]]]) + 1
        return "give", mark, chance.randint(1, 4), LOCKS[hidden[0]], self.court.now() + chance.choice((4, 5, 6, 6, 7, 7, 8, 9))

    def test_whose_others_give_nothing_away(self):
        """All is handed on without a fee, by one lock in several pools: ann has what she began with, to the last one."""
        handed = opened = 0
        for seed in range(200):
            chance = random.Random(seed)
            self.begin(chance)
            self.some_move, self.haste, spent = self.mean_move, chance.choice((0, 0.1, 0.5)), 0
            for _ in range(chance.randint(10, 40)):
                for _ in range(4 if len(self.mine) > 1 else 0):
                    one, other = chance.sample(list(self.mine), 2)
                    promises = [promise for promise in self.mine[one].state()[5] if promise[1] != self.mine[one].party()]
                    if promises:
                        promise = chance.choice(promises)
                        self.ann.wish(("hand", one, other, promise[3], promise[2] + chance.choice((0, 0, 0, 1))))
                spent += self.tick()
            before = len(self.court.board())
            if chance.random() < 0.5:
                for secret in SECRETS[:4]:
                    self.at_court(("show", secret))
            self.spite = 0.5
            for thing in self.ann.ends(self.court.pools()):
                self.at_court(thing)
            while any("ann" in pool[:2] for pool in self.court.pools().values()):
                self.assertEqual(self.tick(), 0)
            self.assertGreaterEqual(self.ledger.free("ann"), 100, seed)
            handed += spent > 0
            opened += spent > 0 and before > 0
        self.assertGreater(handed, 100)
        self.assertGreater(opened, 25)

    def test_with_wishes_of_all_sorts(self):
        for seed in range(150):
            left, spent = self.play(1000 + seed, ("hand", "pay", "send", "take"))
            self.assertGreaterEqual(left + spent, 100, seed)


if __name__ == "__main__":
    unittest.main()
