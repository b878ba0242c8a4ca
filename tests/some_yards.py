"""What the tests of yards share: all that can be seen of one, drawn deeds, and how refused deeds are looked at."""

from clearyard.errors import YardError
from clearyard.states import state_text
from clearyard.yards import Yard
from things import MOST, Case, digest

KEYS = {"ann": "anns", "bob": "bobs", "cid": "cids", "dan": "dans"}
NAMES = tuple(KEYS)
SECRETS = ("open", "shut", "third", "fourth")
LOCKS = tuple(digest("lock " + secret) for secret in SECRETS)


def seal(key, state, told=digest):
    return told(key + " " + state_text(state))


def sealed(state, keys, told=digest):
    return (state, seal(keys[0], state, told), seal(keys[1], state, told))


def closing_seals(number, x, y, keys, told=digest):
    return [told(f"{key} close {number} {x} {y}") for key in keys]


def entered(told=digest, names=NAMES, amount=1000):
    """A yard with names who have so much each."""
    yard = Yard(told)
    for name in names:
        yard.do(("enter", name, KEYS[name]))
        if amount:
            yard.do(("put", name, amount))
    return yard


def seen(yard):
    """All that a yard tells, but for its log."""
    pools = [change[0] for word, changes in yard.ledger().rows() if word == "lock" for change in changes if isinstance(change[0], int)]
    lines = []
    for pool in pools:
        try:
            lines.append((pool, yard.line(pool, 0), yard.line(pool, 1)))
        except YardError:
            pass
    names = yard.ledger().names()
    clearing = yard.clearing()
    return repr((
        yard.ledger().rows(), yard.ledger().pots(), yard.ledger().total(), [(name, yard.ledger().free(name)) for name in names], yard.holds(), clearing.queue(),
        clearing.rounds(), clearing.now(), yard.now(), yard.pools(), yard.board(), lines, [(yard.worth(name), yard.member(name).knows(), yard.member(name).ends(yard.pools())) for name in names],
        yard.deeds(),
    ))


def stands(yard):
    """All that a yard tells, and what comes of it when it goes on: of wishes, too, and of what waits or was handed on."""
    told = [seen(yard)]
    twin = yard.twin()
    for _ in range(3):
        for name in twin.ledger().names():
            told.append(repr(twin.do(("act", name))))
            for pool in list(twin.pools()):
                for party in (0, 1):
                    while twin.line(pool, party):
                        told.append(repr(twin.do(("arrive", pool, party, 0))))
    twin.do(("tick", 1))
    told.append(seen(twin))
    return "\n".join(told)


class YardCase(Case):

    def kept(self, yard, refusal, fields, deed):
        """That a deed is refused, and changes nothing but the log."""
        before, log = stands(yard), yard.log()
        self.refused(refusal, fields, yard.do, deed)
        self.assertEqual(stands(yard), before)
        k = len(log) // 2 + 1
        self.assertEqual(yard.log(), [*log, ("begin", k), ("end", k)])


class Drawn:
    """Draws deeds of all sorts for a yard, now and then such as are refused."""

    def __init__(self, chance, names=NAMES):
        self.chance, self.names = chance, names
        self.sealed = {}

    def gather(self, yard):
        """All that members have sealed by now, by pools: what anybody who knows both keys may post."""
        for number, pool in yard.pools().items():
            for name in pool[:2]:
                for thing in yard.member(name).ends(yard.pools()):
                    if thing[0] == "post" and thing[1][0][1] == number and thing[1] not in self.sealed.setdefault(number, []):
                        self.sealed[number].append(thing[1])

    def wish(self, yard, name):
        chance = self.chance
        own = [number for number, pool in yard.pools().items() if name in pool[:2]] or [1]
        lock, until = chance.choice(LOCKS), yard.now() + chance.randint(3, 25)
        pool, other, amount = chance.choice(own), chance.choice(own), chance.randint(1, 9)
        return chance.choice((
            ("pay", pool, amount), ("send", pool, amount, lock, until), ("send", pool, amount, lock, until), ("hand", pool, other, lock, amount),
            ("hand", pool, other, lock, amount), ("hand", pool, other, lock, amount), ("take", chance.choice(SECRETS)), ("take", "z"), ("pay", 0, 1),
        ))

    def message(self, yard, pool):
        """Something forged: heard before, or of any kind."""
        lines = [thing for party in (0, 1) for thing in yard.line(pool, party)]
        return self.chance.choice([None, 5, "agreed", ("offer", 1, ("pass",), 5), ("agree", 1, 7), ("offer", [1]), {}, *lines, *lines])

    def deed(self, yard):
        chance = self.chance
        word = chance.choices(WORDS, WEIGHTS)[0]
        name, other = chance.sample(self.names, 2)
        amount = chance.choice((1, 2, 3, 5, 8, 20, 60, MOST))
        pools = list(yard.pools()) or [1]
        pool, party = chance.choice(pools), chance.randint(0, 1)
        line = yard.line(pool, party) if yard.pools() else []
        at = chance.randrange(len(line) + (chance.random() < 0.1)) if line else 0
        if word == "enter":
            return (word, chance.choice((name, "zoe", "eve")), chance.choice((KEYS[name], "key", "eves")))
        if word in ("put", "take"):
            return (word, name, min(amount, 100) if word == "put" else amount)
        if word == "order":
            begin = yard.now() + chance.randint(-2, 2)
            return (word, ("order", name, other, amount, chance.randint(0, 3), max(0, begin), max(0, begin) + chance.randint(1, 9)))
        if word == "drop":
            return (word, chance.choice([*yard.clearing().queue(), 1, 5]))
        if word == "round":
            return (word, chance.choice(("great", "best", "good")))
        if word == "hold":
            return (word, name, other, amount, chance.randint(0, 9))
        if word == "claim":
            return (word, chance.choice([*yard.holds(), 1]), amount)
        if word == "back":
            return (word, chance.choice([*yard.holds(), 1]))
        if word == "found":
            return (word, name, other, chance.choice((0, 10, 30)), chance.choice((0, 10, 30)), chance.randint(1, 8))
        if word == "wish":
            return (word, name, self.wish(yard, name))
        if word in ("act", "ends"):
            return (word, name)
        if word in ("arrive", "lose", "copy"):
            busy = [(number, side) for number in pools for side in (0, 1) if yard.pools() and yard.line(number, side)]
            if busy and chance.random() < 0.95:
                pool, party = chance.choice(busy)
                at = chance.randrange(len(yard.line(pool, party)))
            return (word, pool, party, at)
        if word == "forge":
            return (word, pool, party, self.message(yard, pool) if yard.pools() else None)
        if word == "post":
            return (word, chance.choice([*self.sealed.get(pool, []), None]))
        if word == "leave":
            return (word, pool)
        if word == "agree":
            return (word, *self.agreement(yard, pool))
        if word == "show":
            return (word, chance.choice((*SECRETS, "")))
        return (word, chance.choice((1, 1, 1, 1, 2, 3, 0)))

    def agreement(self, yard, pool):
        """Both agree to share by what stands, or by seals of another sum."""
        if pool not in yard.pools():
            return pool, 1, 1, [1, 1]
        one, other = yard.pools()[pool][:2]
        worth = yard.ledger().pots()[pool]
        x = self.chance.randint(0, worth)
        seals = closing_seals(pool, x, worth - x, (KEYS.get(one, "key"), KEYS.get(other, "key")))
        return pool, x, worth - x, seals if self.chance.random() < 0.8 else [seals[0], 5]


SHARES = {
    "enter": 1, "put": 3, "take": 2, "order": 8, "drop": 1, "round": 5, "hold": 4, "claim": 3, "back": 1, "found": 4, "wish": 20, "act": 50, "ends": 1,
    "arrive": 75, "lose": 4, "copy": 5, "forge": 5, "post": 1, "leave": 0.4, "agree": 0.4, "show": 1, "tick": 14,
}
WORDS, WEIGHTS = list(SHARES), list(SHARES.values())


def drawn_deeds(yard, drawn, many, tell=None):
    """Does drawn deeds at a yard, those refused among them; tell is told each deed and what came of it."""
    for _ in range(many):
        deed = drawn.deed(yard)
        try:
            told = yard.do(deed)
        except YardError as refusal:
            told = refusal
        drawn.gather(yard)
        if tell is not None:
            tell(deed, told)
    return yard
