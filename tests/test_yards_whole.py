"""[2] (a) to (g) over the whole program: long drawn rows of deeds of all sorts, held against models."""

import copy
import random
import unittest

from clearyard.bests import shows_best
from clearyard.clearing import Clearing
from clearyard.courts import Court
from clearyard.errors import NoDeed, NoName, NoPool, NoSeal, NoTime, YardError
from clearyard.greatest import shows_greatest
from clearyard.holds import Holds
from clearyard.ledger import Ledger, ledger_of
from clearyard.members import Member
from clearyard.moves import moved
from clearyard.partners import Partner
from clearyard.states import read_state, state_text
from clearyard.trees import shows
from clearyard.ways import cheapest, shows_cheapest
from clearyard.yards import Yard, led
from some_yards import KEYS, LOCKS, NAMES, Drawn, YardCase, drawn_deeds, entered, seal, stands
from things import Asked, Case, Spoiled, digest


def is_number(thing):
    return thing.__class__ is int


class Model:
    """A yard by the words of [130] and [131], over the ledger, Holds, a Clearing, a Court and Members: each deed at a deep copy."""

    def __init__(self):
        self.ledger = Ledger()
        self.holds, self.clearing, self.court = Holds(self.ledger), Clearing(self.ledger), Court(self.ledger, digest)
        self.members, self.keys, self.names, self.lines, self.partners = {}, {}, {}, {}, {}

    def do(self, deed):
        """The model behind a deed, and what that tells, or the refusal."""
        other = copy.deepcopy(self)
        try:
            return other, other.done(*deed)
        except YardError as refusal:
            return self, refusal

    def seen(self):
        return self.court.pools(), self.court.board(), self.court.now()

    def put_on(self, pool, party, thing):
        if len(self.lines[pool, party]) < 8:
            self.lines[pool, party].append(thing)

    def done(self, word, *parts):
        if word in ("put", "take"):
            return getattr(self.ledger, word)(*parts)
        if word == "enter":
            return self.enter(*parts)
        if word in ("order", "drop", "round"):
            return {"order": self.clearing.add, "drop": self.clearing.drop, "round": self.clearing.round}[word](*parts)
        if word == "hold":
            *rest, ticks = parts
            try:
                return self.holds.hold(*rest, self.court.now() + ticks)
            except NoTime:
                raise NoTime(ticks)
        if word in ("claim", "back"):
            return {"claim": self.holds.claim, "back": self.holds.drop}[word](*parts)
        if word == "found":
            return self.found(*parts)
        if word in ("wish", "act", "ends"):
            if parts[0] not in self.members:
                raise NoName(parts[0])
            return self.by_member(word, *parts)
        if word in ("arrive", "lose", "copy", "forge"):
            return self.under_way(word, *parts)
        if word in ("post", "leave", "agree", "show"):
            return getattr(self.court, word)(*parts)
        if not 1 <= parts[0] <= 100:
            raise NoTime(parts[0])
        time = self.court.now() + parts[0]
        over = self.holds.on(time)
        self.clearing.on(time)
        return over, self.court.on(time)

    def enter(self, name, key):
        self.ledger.enter(name)
        if key in self.keys.values():
            raise NoSeal()
        self.keys[name] = key
        self.partners[name] = {}
        self.members[name] = Member(name, self.partners[name])

    def found(self, one, other, x, y, wait):
        names = (one, other)
        keys = [self.keys.get(name) for name in names]
        number = self.court.found(one, other, x, y, keys, wait)
        self.names[number] = names
        for party in (0, 1):
            self.lines[number, party] = []
            partner = Partner(number, party, x, y, keys[party], Good(keys[1 - party]), digest)
            self.partners[names[party]][number] = partner
        return number

    def by_member(self, word, name, *row):
        member = self.members[name]
        if word == "wish":
            return member.wish(*row)
        told = member.act(*self.seen()) if word == "act" else member.ends(self.court.pools())
        for thing in told:
            if thing[0] == "say":
                self.put_on(thing[1], 1 - self.names[thing[1]].index(name), thing[2])
            else:
                try:
                    getattr(self.court, thing[0])(thing[1])
                except YardError:
                    pass
        return told

    def under_way(self, word, pool, party, part):
        if pool not in self.names:
            raise NoPool(pool)
        line = self.lines[pool, party]
        if word == "forge":
            return self.put_on(pool, party, part if plain(part) else None)
        if not 0 <= part < len(line):
            raise NoDeed(part)
        if word == "copy":
            return self.put_on(pool, party, line[part])
        thing = line.pop(part)
        if word == "lose":
            return None
        told = self.members[self.names[pool][party]].hear(pool, thing, *self.seen())
        if isinstance(told, tuple):
            self.put_on(pool, 1 - party, told[2])
        return told

    def visible(self):
        names = self.ledger.names()
        return repr((
            self.ledger.rows(), self.holds.holds(), self.clearing.queue(), self.clearing.rounds(), self.seen(), sorted(self.lines.items()),
            [self.members[name].knows() for name in names], [self.worth(name) for name in names],
        ))

    def worth(self, name):
        held = sum(hold[2] for hold in self.holds.holds().values() if hold[0] == name)
        return self.ledger.free(name), held, self.members[name].sure(*self.seen())


class Good:
    """Whether a seal is one by this key: a class, so that a deep copy has its own."""

    def __init__(self, key):
        self.key = key

    def __call__(self, text, number):
        return digest(self.key + " " + text) == number


def plain(thing):
    return all(map(plain, thing)) if isinstance(thing, tuple) else thing is None or isinstance(thing, (int, str))


def visible(yard, pools):
    names = yard.ledger().names()
    return repr((
        yard.ledger().rows(), yard.holds(), yard.clearing().queue(), yard.clearing().rounds(), (yard.pools(), yard.board(), yard.now()),
        [((pool, party), yard.line(pool, party)) for pool in pools for party in (0, 1)],
        [yard.member(name).knows() for name in names], [yard.worth(name) for name in names],
    ))


class AgainstTheModel(YardCase):

    def test_all_deeds(self):
        words = set()
        for seed in range(40):
            yard, model = Yard(digest), Model()
            drawn = Drawn(random.Random(seed))
            due = []
            for name in NAMES:
                for deed in (("enter", name, KEYS[name]), ("put", name, 100)):
                    yard.do(deed)
                    model, _ = model.do(deed)
                    due.append(deed)
            for _ in range(120):
                deed = drawn.deed(yard)
                model, due_told = model.do(deed)
                try:
                    told = yard.do(deed)
                except YardError as refusal:
                    self.assertEqual((refusal.__class__, vars(refusal)), (due_told.__class__, vars(due_told)), deed)
                else:
                    self.assertEqual(repr(told), repr(due_told), deed)
                    words.add(deed[0])
                    due.append(deed if deed[0] not in ("forge", "agree") else (*deed[:-1], tuple(deed[-1]) if deed[0] == "agree" else deed[-1] if plain(deed[-1]) else None))
                self.assertEqual(visible(yard, sorted(model.names)), model.visible())
                drawn.gather(yard)
            self.assertEqual(repr(yard.deeds()), repr(due))
            self.assertEqual(stands(led(digest, due)), stands(yard))
        self.assertEqual(len(words), 22)


class Sums(YardCase):

    def by_rows(self, rows):
        """What is free, what is in pots, and what came in less what went out, by the rows alone."""
        free, pots, outside = {}, {}, 0
        for word, changes in rows:
            self.assertEqual(sum(number for _, number in changes), 0)
            self.assertEqual(len({place for place, _ in changes}), len(changes))
            for place, number in changes:
                if place is None:
                    outside -= number
                else:
                    table = free if isinstance(place, str) else pots
                    table[place] = table.get(place, 0) + number
                    self.assertGreaterEqual(table[place], 0)
        return free, {number: left for number, left in pots.items() if left}, outside

    def test_at_every_moment(self):
        for seed in range(30):
            yard = entered(amount=100)

            def tell(deed, told):
                free, pots, outside = self.by_rows(yard.ledger().rows())
                self.assertEqual({name: yard.ledger().free(name) for name in yard.ledger().names()}, free)
                self.assertEqual((yard.ledger().pots(), yard.ledger().total()), (dict(sorted(pots.items())), outside))
                self.assertEqual(sum(free.values()) + sum(pots.values()), outside)
                # All that isn't free is held, or in a pool: what stands there, and what was promised.
                held = {number: hold[2] for number, hold in yard.holds().items()}
                pools = {}
                for number, (_, _, _, state, status, _) in yard.pools().items():
                    pools[number] = sum(promise[2] for promise in state[5]) + (0 if status == "closed" else state[3] + state[4])
                self.assertEqual({**held, **pools}, pots)
                self.assertEqual(sum(map(sum, [yard.worth(name)[:2] for name in free])) + sum(pools.values()), outside)
                self.assertLessEqual(sum(yard.worth(name)[2] for name in free), sum(pools.values()))
            drawn_deeds(yard, Drawn(random.Random(seed)), 150, tell)
            self.assertEqual(ledger_of(yard.ledger().rows()), yard.ledger())

    def test_rounds_by_their_papers(self):
        settled = 0
        for seed in range(30):
            yard, orders = entered(amount=20), {}

            def tell(deed, told):
                if deed[0] == "order" and isinstance(told, int):
                    orders[told] = deed[1]
            drawn_deeds(yard, Drawn(random.Random(seed)), 200, tell)
            for time, how, asked, done, free, paper in yard.clearing().rounds():
                told = ([asked.index(number) for number in done], paper)
                judge = shows_greatest if how == "great" else shows_best
                self.assertTrue(judge(free, [orders[number] for number in asked], told))
                settled += len(done)
        self.assertGreater(settled, 50)

    def test_shares_of_the_tree(self):
        for seed in range(20):
            yard = drawn_deeds(entered(amount=100), Drawn(random.Random(seed)), 60)
            root = yard.tree().root()
            for name in yard.ledger().names():
                free = yard.ledger().free(name)
                self.assertTrue(shows(root, name, free, yard.tree().share(name), digest))
                self.assertFalse(shows(root, name, free + 1, yard.tree().share(name), digest))
            self.assertEqual(root[1], sum(map(yard.ledger().free, yard.ledger().names())))

    def test_texts_are_read_as_written(self):
        """All that the digest is asked is a text of one of its forms; states come back from theirs."""
        asked, words = Asked(), set()
        for seed in range(20):
            yard = drawn_deeds(entered(asked, amount=100), Drawn(random.Random(seed)), 150)
            for name in yard.ledger().names():
                for thing in yard.member(name).ends(yard.pools()):
                    if thing[0] == "post":
                        self.assertEqual(repr(read_state(state_text(thing[1][0]))), repr(thing[1][0]))
        for text in asked.texts:
            first, second, rest = (text.split(" ", 2) + [""])[:3]
            words.add("lock" if first == "lock" and rest == "" else second)
            if second == "state":
                self.assertEqual(state_text(read_state("state " + rest)), "state " + rest)
        self.assertEqual(words, {"lock", "state", "close"})


class LedByTheirDeeds(YardCase):

    def test_behind_any_deeds(self):
        for seed in range(25):
            yard = entered(amount=100)
            drawn = Drawn(random.Random(seed))
            begun = len(yard.log()) // 2
            for many in (30, 60, 60):
                before = len(yard.deeds())
                drawn_deeds(yard, drawn, many)
                begun += many
                self.assertEqual(yard.log(), [pair for k in range(1, begun + 1) for pair in (("begin", k), ("end", k))])
                self.assertLess(len(yard.deeds()), before + many)
                other = led(digest, yard.deeds())
                self.assertEqual(stands(other), stands(yard))
                self.assertEqual(other.log(), [("begin", 1), ("end", 1)])
            one = Yard(digest)
            for deed in yard.deeds():
                one.do(deed)
            self.assertEqual(stands(one), stands(yard))

    def test_all_done_as_one_by_one_or_not_at_all(self):
        refused = 0
        for seed in range(60):
            chance = random.Random(seed)
            yard = drawn_deeds(entered(amount=100), Drawn(chance), chance.randint(0, 60))
            one, deeds, told = yard.twin(), [], []

            def tell(deed, what):
                deeds.append(deed)
                told.append(what)
            drawn_deeds(one, Drawn(chance), chance.randint(1, 12), tell)
            wrong = [at for at, what in enumerate(told) if isinstance(what, YardError)]
            before, log = stands(yard), yard.log()
            if wrong:
                refused += 1
                self.refused(NoDeed, {"at": wrong[0]}, yard.all_done, deeds)
                self.assertEqual(stands(yard), before)
            else:
                self.assertEqual(repr(yard.all_done(deeds)), repr(told))
                self.assertEqual(stands(yard), stands(one))
            k = len(log) // 2 + 1
            self.assertEqual(yard.log(), [*log, ("begin", k), ("end", k)])
        self.assertGreater(refused, 20)
        self.assertLess(refused, 55)

    def test_a_digest_that_raises_an_error_now_and_then(self):
        """The yard stands as one of which the digest never did, and was done no such deed."""
        raised = 0
        for seed in range(25):
            chance = random.Random(seed)
            asked = Asked()
            yard, drawn = entered(asked, amount=100), Drawn(chance)
            for _ in range(100):
                deed = drawn.deed(yard)
                asked.left = chance.choice((None, None, 0, 1, 3))
                before = len(yard.log())
                try:
                    yard.do(deed)
                except YardError:
                    pass
                except Spoiled:
                    raised += 1
                asked.left = None
                self.assertEqual(len(yard.log()), before + 2)
                drawn.gather(yard)
            self.assertEqual(stands(led(digest, yard.deeds())), stands(yard))
        self.assertGreater(raised, 30)


class Keeping(YardCase):
    """Ann keeps to the rules: time goes on by one, and behind each tick she acts. The others do, post and forge what they like."""

    def worth(self):
        return sum(self.yard.worth("ann"))

    def agreed(self, number):
        """Ann's agreed state of an open pool."""
        for thing in self.yard.member("ann").ends(self.yard.pools()):
            if thing[0] == "post" and thing[1][0][1] == number:
                return thing[1][0]
        return self.yard.pools()[number][3]

    def forged(self, number):
        """An offer to ann by any move, rightly sealed."""
        chance, state = self.chance, self.agreed(number)
        one, other = self.yard.pools()[number][:2]
        party = 1 if one == "ann" else 0
        marks = [promise[0] for promise in state[5]]
        secret = chance.choice([secret for secret, lock in zip(("open", "shut", "third", "fourth"), LOCKS) for promise in state[5] if promise[3] == lock] or ["open"])
        give = ("give", max([0, *marks]) + 1, chance.randint(1, 9), chance.choice(LOCKS), self.yard.now() + chance.randint(2, 12))
        move = chance.choice((give, give, ("claim", chance.choice([1, *marks]), secret), ("late", chance.choice([1, *marks])), ("pass",), ("pay", 1)))
        try:
            after = moved(state, party, move, digest)
        except YardError:
            return None
        return ("offer", after[2], move, seal(KEYS[other if one == "ann" else one], after))

    def waits(self):
        """The offers of ann's that wait, by pools: a twin that acts says them again."""
        told = {}
        for thing in self.yard.twin().do(("act", "ann")):
            if thing[0] == "say":
                told[thing[1]] = thing[2]
        return told

    def do(self, *deed):
        try:
            return self.yard.do(deed)
        except YardError:
            return None

    def deed(self, drawn):
        """Something of the others', or a message to ann."""
        chance, yard = self.chance, self.yard
        mine = [number for number, pool in yard.pools().items() if "ann" in pool[:2]]
        open_ones = [number for number in mine if yard.pools()[number][4] == "open"]
        if open_ones and chance.random() < 0.4:
            number = chance.choice(open_ones)
            party = yard.pools()[number][:2].index("ann")
            message = self.forged(number)
            line = yard.line(number, party)
            if message is not None and len(line) < 8:
                return [("forge", number, party, message), ("arrive", number, party, len(line))]
        deed = drawn.deed(yard)
        while deed[0] in ("tick", "agree") or "ann" in deed[1:2] or deed[0] == "order" and "ann" in deed[1] or deed[0] == "found" and "ann" in deed:
            deed = drawn.deed(yard)
        return [deed]

    def test_what_is_sure_falls_by_her_own_pays_and_promises_alone(self):
        spent_in_all = opened = 0
        for seed in range(60):
            self.chance = chance = random.Random(seed)
            self.yard = yard = entered(amount=100)
            drawn, self.again = Drawn(chance), {}
            for other in ("bob", "cid"):
                self.do("found", *chance.choice((("ann", other), (other, "ann"))), 40, 40, chance.randint(2, 6))
            self.do("found", "bob", "dan", 30, 30, 3)
            for _ in range(chance.randint(10, 35)):
                self.do("wish", "ann", drawn.wish(yard, "ann"))
                for _ in range(chance.randint(0, 6)):
                    for deed in self.deed(drawn):
                        self.step(deed)
                    drawn.gather(yard)
                self.step(("tick", 1))
                spent_in_all += self.acted()
            opened += len(yard.board()) > 0
            self.end()
        self.assertGreater(spent_in_all, 300)
        self.assertGreater(opened, 10)

    def step(self, deed):
        """A deed that isn't ann's own takes nothing from her but by a hold's claim, to which she agreed by the hold."""
        before = self.worth()
        held = self.yard.holds().get(deed[1], ("", "", 0, 0)) if deed[0] == "claim" and is_number(deed[1]) else ("", "", 0, 0)
        self.do(*deed)
        self.assertGreaterEqual(self.worth() + (held[2] if held[0] == "ann" else 0), before, deed)

    def acted(self):
        before, waited = self.worth(), self.again
        spent = 0
        told = self.do("act", "ann")
        for thing in told:
            if thing[0] == "say" and waited.get(thing[1]) != thing[2] and thing[2][2][0] in ("pay", "give"):
                spent += thing[2][2][1 if thing[2][2][0] == "pay" else 2]
        self.again = {thing[1]: thing[2] for thing in told if thing[0] == "say"}
        self.assertGreaterEqual(self.worth() + spent, before)
        return spent

    def end(self):
        self.do("ends", "ann")
        sure = self.worth()
        while any("ann" in pool[:2] for pool in self.yard.pools().values()):
            self.do("tick", 1)
            self.do("act", "ann")
            self.assertLess(self.yard.now(), 300)
        self.assertGreaterEqual(self.yard.worth("ann")[0] + self.yard.worth("ann")[1], sure)
        self.assertEqual(self.yard.worth("ann")[2], 0)


class Payments(Case):
    """[2] (d), (e): payments along the cheapest way, by pools, over lines that lose and double."""

    def edges(self, chance, yard):
        """What who of each pool may hand on to the other, for a fee."""
        edges = {}
        for number, (one, other, _, state, _, _) in yard.pools().items():
            fee = chance.choice(((0, 0), (1, 0), (0, 200), (2, 100)))
            edges[one, other] = (number, (one, other, state[3], *fee))
            edges[other, one] = (number, (other, one, state[4], *fee))
        return edges

    def plan(self, chance, yard):
        """Wishes by the cheapest way of some payment: the names on it, and what each has to have more at last."""
        edges = self.edges(chance, yard)
        rows = [edge for _, edge in edges.values()]
        while True:
            payer, payee = chance.sample(NAMES, 2)
            amount = chance.randint(3, 12)
            told = cheapest(rows, payer, payee, amount)
            self.assertTrue(shows_cheapest(rows, payer, payee, amount, told))
            if told[0] is not None and (len(told[0]) > 1 or chance.random() < 0.1):
                break
        way = told[0]
        until = yard.now() + chance.randint(12, 24)
        number = edges[way[0][:2]][0]
        yard.do(("wish", payer, ("send", number, way[0][2], LOCKS[0], until)))
        for step, after in zip(way, way[1:]):
            yard.do(("wish", step[1], ("hand", edges[step[:2]][0], edges[after[:2]][0], LOCKS[0], after[2])))
        more = {name: 0 for name in NAMES}
        for one, other, over in way:
            more[one] -= over
            more[other] += over
        return payer, payee, more

    def arrive(self, chance, yard, lossy):
        for pool in list(yard.pools()):
            for party in (0, 1):
                while yard.line(pool, party):
                    at = chance.randrange(len(yard.line(pool, party))) if lossy else 0
                    word = chance.choice(("arrive", "arrive", "arrive", "lose", "copy")) if lossy else "arrive"
                    yard.do((word, pool, party, at))
                    if word == "copy":
                        yard.do(("arrive", pool, party, at))

    def test_done_at_all_members_or_at_none(self):
        ends = {True: 0, False: 0}
        for seed in range(120):
            chance = random.Random(seed)
            yard = entered(amount=100)
            for one, other in (("ann", "bob"), ("cid", "bob"), ("cid", "dan"), ("dan", "ann")):
                yard.do(("found", one, other, 25, 25, chance.randint(2, 5)))
            payer, payee, more = self.plan(chance, yard)
            takes, lossy = chance.random() < 0.85, chance.random() < 0.6
            if takes:
                yard.do(("wish", payee, ("take", "open")))
            cut = chance.randint(1, 25) if lossy else None
            self.go(chance, yard, lossy, cut)
            left = {name: yard.worth(name)[0] - 100 for name in NAMES}
            done = left != dict.fromkeys(NAMES, 0)
            self.assertEqual(left, more if done else dict.fromkeys(NAMES, 0), seed)
            if done:
                # The payer has the secret as its receipt, and the payee has shown it.
                self.assertIn("open", yard.member(payer).knows())
            if not lossy:
                self.assertEqual(done, takes, seed)
            ends[done] += 1
            self.assertEqual(stands(led(digest, yard.deeds())), stands(yard))
        self.assertGreater(min(ends.values()), 25)

    def go(self, chance, yard, lossy, cut):
        """Ticks and acts of all; from cut on nothing arrives; then all ends."""
        for at in range(30):
            yard.do(("tick", 1))
            for name in NAMES:
                yard.do(("act", name))
            if cut is None or at < cut:
                for _ in range(2):
                    self.arrive(chance, yard, lossy)
        for name in NAMES:
            yard.do(("ends", name))
        while yard.pools():
            yard.do(("tick", 1))
            for name in NAMES:
                yard.do(("act", name))
            self.assertLess(yard.now(), 200)


if __name__ == "__main__":
    unittest.main()
