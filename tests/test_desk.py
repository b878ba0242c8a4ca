"""[133]: the desk, each row of each form with each answer that it may have."""

import random
import unittest

from clearyard.desk import Desk
from clearyard.errors import NoName, NoState, YardError
from clearyard.states import read_state
from clearyard.yards import Yard
from some_yards import KEYS, LOCKS, NAMES
from things import ODD, Asked, Case, Spoiled, digest

OPEN = LOCKS[0]


class DeskCase(Case):

    def setUp(self):
        self.desk = Desk(digest)

    def says(self, *rows):
        """Rows and what is told of them, by turns."""
        for row, told in zip(rows[::2], rows[1::2]):
            self.assertEqual(repr(self.desk.say(row)), repr(told), row)

    def enter(self, amount=100):
        for name in NAMES:
            self.says(f"enter {name} {KEYS[name]}", "ok", f"put {name} {amount}", "ok")


class Rows(DeskCase):

    def test_by_name(self):
        self.assertEqual(Desk(digest=digest).say(row="total"), "0")

    def test_accounts(self):
        self.says(
            "enter ann anns", "ok", "enter ann cids", "refused noname", "enter bob anns", "refused noseal", "enter Bob bobs", "refused noname",
            "enter bob bobs", "ok", "put ann 100", "ok", "put cid 5", "refused noname", "put ann 0", "refused noamount", "put ann 1000000001", "refused noamount",
            "take ann 30", "ok", "take ann 71", "refused short", "take cid 0", "refused noname", "free ann", "70", "free bob", "0", "free cid", "refused noname",
            "worth ann", "70 0 0", "worth cid", "refused noname", "total", "70", "judge", "ok",
        )

    def test_orders(self):
        self.enter(10)
        self.says(
            "order ann bob 20 0 0 9", "1", "order bob ann 15 0 0 9", "2", "order cid ann 11 0 0 9", "3", "order ann bob 5 0 9 9", "refused noorders",
            "order ann ann 5 0 0 9", "refused noorders", "order ann zoe 5 0 0 9", "refused noname", "order ann bob 5 10 0 9", "refused noorders",
            "round great", "1 2", "round best", "-", "round great", "-", "round Great", "refused nohow", "round ", "refused nohow", "drop 3", "ok", "drop 3", "refused noorder",
            "order dan ann 1 0 0 9", "4", "round best", "4", "tick 9", "0 0", "order ann bob 5 0 0 9", "refused notnow", "free ann", "6", "judge", "ok",
        )

    def test_holds(self):
        self.enter()
        self.says(
            "hold ann bob 30 2", "1", "hold ann bob 20 5", "2", "hold ann cid 10 1", "3", "hold ann bob 41 1", "refused short", "hold ann bob 0 1", "refused noamount",
            "hold ann bob 1 0", "refused notime", "hold ann ann 1 1", "refused noname", "worth ann", "40 60 0", "claim 2 15", "ok", "claim 2 1", "refused nopot",
            "claim 1 31", "refused noamount", "claim 1 0", "refused noamount", "back 4", "refused nopot", "tick 2", "2 0", "hold bob ann 5 9", "4", "back 4", "ok", "back 4", "refused nopot",
            "worth ann", "85 0 0", "worth bob", "115 0 0", "tick 0", "refused notime", "tick 101", "refused notime", "tick 100", "0 0", "judge", "ok",
        )

    def test_pools(self):
        self.enter()
        self.says(
            "found ann bob 30 20 5", "1", "found ann bob 0 0 5", "refused noamount", "found ann zoe 1 1 5", "refused noname", "found ann bob 1 1 1", "refused notime",
            "found ann bob 71 1 5", "refused short", "state 1", "state 1 0 30 20", "state 2", "-", "state 0", "-", "worth ann", "70 0 30",
            "wish ann pay 1 7", "ok", "wish ann pay 2 7", "refused nomove", "wish zoe pay 1 7", "refused noname", "act ann", "1", "act zoe", "refused noname", "act dan", "0",
            "line 1 1", "1", "line 1 0", "0", "line 1 2", "refused nopool", "line 2 0", "refused nopool", "copy 1 1 0", "ok", "line 1 1", "2", "copy 1 1 2", "refused nodeed",
            "copy 2 1 0", "refused nopool", "copy 1 2 0", "refused nodeed", "arrive 1 1 0", "say", "arrive 1 1 0", "say", "arrive 1 1 0", "refused nodeed", "line 1 0", "2",
            "arrive 1 0 0", "agreed", "arrive 1 0 0", "-", "lose 1 0 0", "refused nodeed", "act bob", "1", "lose 1 0 0", "ok", "state 1", "state 1 0 30 20", "worth ann", "70 0 23",
            "leave 1", "ok", "leave 1", "refused done", "leave 2", "refused nopool", "act ann", "1", "act bob", "0", "ends ann", "0", "state 1", "state 1 1 23 27",
            "ends zoe", "refused noname", "tick 5", "0 2", "state 1", "-", "worth ann", "93 0 0", "judge", "ok",
        )

    def test_ends(self):
        self.enter()
        self.says("found ann bob 30 20 5", "1", "found cid ann 30 0 5", "2", "ends ann", "2", "ends ann", "0", "ends bob", "0", "tick 5", "0 3", "judge", "ok")

    def test_secrets(self):
        self.enter()
        self.says(
            "lock open", str(OPEN), "lock ", "refused noseal", "lock Open", "refused noseal", "lock " + "a" * 20, str(digest("lock " + "a" * 20)), "lock " + "a" * 21, "refused noseal",
            "show open", "ok", "show open", "ok", "show ", "refused noseal", "show OPEN", "refused noseal", "judge", "ok",
        )

    def test_a_payment_along_two_pools(self):
        self.enter()
        self.says(
            "found ann bob 50 50 5", "1", "found bob cid 50 50 5", "2", f"wish ann send 1 10 {OPEN} 20", "ok", f"wish bob hand 1 2 {OPEN} 9", "ok", "wish cid take open", "ok",
            "act ann", "1", "arrive 1 1 0", "say", "arrive 1 0 0", "agreed", "act bob", "2", "arrive 2 1 0", "say", "arrive 2 0 0", "agreed",
            "state 1", "state 1 0 50 50", "ends bob", "2", "state 1", f"state 1 1 40 50 / 1 0 10 {OPEN} 20", "state 2", f"state 2 1 41 50 / 1 0 9 {OPEN} 20",
            "tick 5", "0 4", "state 1", f"state 1 1 40 50 / 1 0 10 {OPEN} 20", "tick 13", "0 0", "act cid", "1", "tick 1", "0 2", "state 1", "-",
            "free ann", "90", "free bob", "101", "free cid", "109", "judge", "ok",
        )


class What(DeskCase):

    def test_rows_of_no_form(self):
        self.enter()
        self.says("found ann bob 50 50 5", "1", "hold ann bob 1 9", "2", "order ann bob 5 0 0 9", "1")
        before = self.desk.say("total"), self.desk.say("worth ann")
        rows = [
            "enter ann anns", "put ann 5", "take ann 5", "order ann bob 5 0 0 9", "drop 1", "round great", "hold ann bob 5 9", "claim 2 1", "back 2", "found ann bob 5 5 5",
            "wish ann pay 1 7", f"wish ann send 1 7 {OPEN} 9", f"wish ann hand 1 2 {OPEN} 9", "wish ann take open", "act ann", "ends ann", "arrive 1 0 0", "lose 1 0 0", "copy 1 0 0",
            "leave 1", "show open", "tick 1", "free ann", "worth ann", "total", "state 1", "lock open", "line 1 0", "judge",
        ]
        for row in rows:
            words = row.split(" ")
            spoiled = [" " + row, row.upper(), row + " 1", row + " ann", "\n" + row, words[0] + "s" + row[len(words[0]):], row + " ", row + " 1 "]
            spoiled += [" ".join(words[:-1])] if len(words) > 1 else []
            spoiled += [row.replace(" ", "  ", 1), row.replace(" ", "\n", 1)] if len(words) > 1 else []
            for at, word in enumerate(words):
                if word.isdigit():
                    for number in ("", "0" + word, "+" + word, "-" + word, "x", word + ".0", word + "x", "1_0", "00", "one", word + "\n", "\n" + word):
                        spoiled.append(" ".join([*words[:at], number, *words[at + 1:]]))
            for other in spoiled:
                if other.split(" ")[0] == words[0] and len(other.split(" ")) == len(words) and not any(word.isdigit() for word in words):
                    continue
                self.says(other, "what")
        self.assertEqual((self.desk.say("total"), self.desk.say("worth ann")), before)
        self.says("tick 1", "0 0", "tick 8", "1 0")

    def test_other_rows(self):
        self.enter()
        for row in [
            "", " ", "  ", "\n", "what", "ok", "post 1", "agree 1 5 5", "agree 1 5 5 1 1", "forge 1 0 5", "forge 1 0", "post", "move ann bob 5", "all_done", "do tick 1", "now", "log",
            "deeds", "wish ann", "wish", "wish ann pay", "wish ann give 1 7", "wish ann pass", "wish ann pay 1", "wish ann pay 1 7 7", f"wish ann send 1 7 {OPEN}", "wish ann take",
            "wish ann take a b", "wish ann take open 1", f"wish ann hand 1 {OPEN} 9", "wish  pay", "wish ann  1 7", "wish ann Pay 1 7", "order order ann bob 5 0 0 9", "order 1",
            "order ann bob 5 0 0", "order ann bob -5 0 0 9", "round", "round great best", "judge ok", "total 1", "total ", "judge ", "free", "state", "state x", "state 01", "line 1",
            "line 1 0 0", "lock", "lock a b", "show", "show a b", "act", "tick", "tick x", "tick 1 1", "tick one", "hold ann bob 5", "hold 5 ann bob 9", "found ann bob 5 5", "enter ann",
        ]:
            self.says(row, "what")
        for row in [thing for thing in ODD if not isinstance(thing, str)] + [5, ("act", "ann"), ["tick 1"]]:
            self.says(row, "what")

    def test_any_word_where_a_name_a_key_a_secret_or_how_is_wanted(self):
        for word in ("", "5", "Ann", "-", "ann\n", "\n", "toolongname", "a" * 21, "~", "zoe1", "*"):
            self.setUp()
            self.enter()
            self.says("found ann bob 50 50 5", "1")
            self.says(
                f"enter {word} zoes", "refused noname", f"enter zoe {word}", "refused noseal" if word != "toolongname" else "ok", f"put {word} 5", "refused noname",
                f"take {word} 5", "refused noname", f"order {word} ann 5 0 0 9", "refused noorders", f"order ann {word} 5 0 0 9", "refused noorders", f"round {word}", "refused nohow",
                f"hold {word} ann 5 9", "refused noname", f"hold ann {word} 5 9", "refused noname", f"found {word} ann 5 5 5", "refused noname",
                f"found ann {word} 5 5 5", "refused noname", f"wish {word} pay 1 7", "refused noname", f"wish {word} take open", "refused noname",
                f"wish ann take {word}", "refused nomove" if word != "toolongname" else "ok", f"act {word}", "refused noname", f"ends {word}", "refused noname",
                f"show {word}", "refused noseal" if word != "toolongname" else "ok", f"free {word}", "refused noname", f"worth {word}", "refused noname",
                f"lock {word}", "refused noseal" if word != "toolongname" else str(digest("lock toolongname")),
            )

    def test_empty_words(self):
        """Two blanks side by side, or one at an end, have an empty word between or behind them."""
        self.enter()
        self.says(
            "act ", "refused noname", "enter  zoes", "refused noname", "enter zoe ", "refused noseal", "enter  ", "refused noname", "wish  take open", "refused noname",
            "wish ann take ", "refused nomove", "put  5", "refused noname", "put ann ", "what", "put ann  5", "what", "hold  bob 5 9", "refused noname", "hold ann  5 9", "refused noname",
            "round ", "refused nohow", "tick ", "what", "free ", "refused noname", " free ann", "what", "order  bob 5 0 0 9", "refused noorders",
        )

    def test_numbers_of_any_length(self):
        self.enter()
        number = "9" * 40
        self.says(
            f"put ann {number}", "refused noamount", f"drop {number}", "refused noorder", f"claim {number} 5", "refused nopot", f"state {number}", "-", f"leave {number}", "refused nopool",
            f"line {number} 0", "refused nopool", f"arrive {number} 0 0", "refused nopool", f"arrive 1 {number} 0", "refused nodeed", f"hold ann bob 5 {number}", "1",
            f"order ann bob 5 0 0 {number}", "1", f"tick {number}", "refused notime", "judge", "ok",
        )


class AgainstAYard(DeskCase):

    def row(self, chance, yard):
        """A row, and the deed that it says."""
        name, other = chance.sample(NAMES, 2)
        pools = list(yard.pools()) or [1]
        pool, party, at, amount = chance.choice(pools), chance.randint(0, 1), chance.choice((0, 0, 0, 1)), chance.randint(0, 12)
        lock, until = chance.choice(LOCKS), yard.now() + chance.randint(3, 20)
        wish = chance.choice((("pay", pool, amount), ("send", pool, amount, lock, until), ("hand", pool, chance.choice(pools), lock, amount), ("take", chance.choice(("open", "shut")))))
        deeds = [
            ("put", name, amount), ("take", name, amount), ("order", name, other, amount, 0, yard.now(), yard.now() + amount), ("drop", amount), ("round", chance.choice(("great", "best"))),
            ("hold", name, other, amount, 5), ("claim", chance.choice([*yard.holds(), 1]), amount), ("back", amount), ("found", name, other, amount, 9, amount),
            ("act", name), ("act", name), ("act", name), ("act", name), ("ends", name) if amount == 0 else ("act", name), ("lose", pool, party, at), ("copy", pool, party, at),
            *[("arrive", pool, party, at)] * 9, ("wish", name, *wish), ("wish", name, *wish), ("leave", pool) if amount == 0 else ("tick", 1), ("show", "open") if amount == 0 else ("tick", amount),
        ]
        words = chance.choice(deeds)
        row = " ".join(map(str, words))
        if words[0] == "order":
            return row, ("order", words)
        return row, words if words[0] != "wish" else ("wish", name, wish)

    def due(self, word, told):
        if word in ("order", "hold", "found"):
            return str(told)
        if word == "round":
            return " ".join(map(str, told[0])) if told[0] else "-"
        if word in ("act", "ends"):
            return str(len(told))
        if word == "arrive":
            return "-" if told is None else "agreed" if told == "agreed" else "say"
        if word == "tick":
            return f"{len(told[0])} {len(told[1])}"
        return "ok"

    def test_drawn_rows(self):
        seen = set()
        for seed in range(40):
            chance = random.Random(seed)
            self.desk, yard = Desk(digest), Yard(digest)
            for name in NAMES:
                for deed in (("enter", name, KEYS[name]), ("put", name, 60)):
                    yard.do(deed)
                    self.says(" ".join(map(str, deed)), "ok")
            for _ in range(120):
                row, deed = self.row(chance, yard)
                try:
                    due = self.due(deed[0], yard.do(deed))
                except YardError as refusal:
                    due = "refused " + refusal.__class__.__name__.lower()
                self.says(row, due)
                seen.add((deed[0], due if due in ("say", "agreed", "-", "ok") else due.split(" ")[0] == "refused"))
                self.questions(yard)
            self.says("judge", "ok")
        self.assertGreater(len(seen), 30)
        self.assertTrue(seen.issuperset({("arrive", "say"), ("arrive", "agreed"), ("arrive", "-"), ("round", "-")}))

    def questions(self, yard):
        self.says("total", str(yard.ledger().total()))
        for name in NAMES:
            self.says(f"free {name}", str(yard.ledger().free(name)), f"worth {name}", " ".join(map(str, yard.worth(name))))
        for pool, (_, _, _, state, _, _) in yard.pools().items():
            self.assertEqual(read_state(self.desk.say(f"state {pool}")), state)
            for party in (0, 1):
                self.says(f"line {pool} {party}", str(len(yard.line(pool, party))))


class Digests(DeskCase):

    def test_errors_pass_on_and_change_nothing(self):
        asked = Asked()
        self.desk = Desk(asked)
        self.enter()
        self.says("found ann bob 50 50 5", "1", f"wish ann send 1 5 {OPEN} 9", "ok", "wish bob take open", "ok")
        for row in ("lock open", "act ann", "arrive 1 1 0", "arrive 1 0 0", "act bob", "arrive 1 0 0", "worth bob", "judge", "ends ann", "tick 1"):
            asked.left = 0
            if row != "tick 1":
                with self.assertRaises(Spoiled):
                    self.desk.say(row)
            self.says("act zoe", "refused noname", "free ann", "50", "line 1 2", "refused nopool")
            asked.left = None
            self.assertNotIn(self.desk.say(row).split(" ")[0], ("refused", "what", "-"), row)
        self.says("judge", "ok")

    def test_the_flaw_that_the_judge_tells(self):
        """Of a digest that tells otherwise later, which none may: the judge comes to another share there."""
        later = []
        self.desk = Desk(lambda text: digest(text + " later" * len(later)))
        self.says("enter ann anns", "ok", "put ann 50", "ok", "enter bob bobs", "ok", "found ann bob 50 0 5", "1", "show open", "ok", "show shut", "ok")
        self.says(f"wish ann send 1 10 {OPEN} 20", "ok", "act ann", "1", "arrive 1 1 0", "say", "arrive 1 0 0", "agreed", "ends ann", "1", "tick 4", "0 0", "judge", "ok")
        self.says("tick 1", "0 2", "judge", "ok", "tick 1", "0 0", "act zoe", "refused noname")
        later.append(True)
        self.says("judge", "deed 12", "free bob", "10")

    def test_errors_that_are_refusals_by_class_alone(self):
        for error in (NoState(), NoName("ann"), YardError()):
            broken = []

            def told(text):
                if broken:
                    raise error
                return digest(text)
            self.desk = Desk(told)
            self.enter()
            self.says("found ann bob 50 50 5", "1")
            broken.append(True)
            for row in ("lock open", "act ann"):
                with self.assertRaises(error.__class__) as caught:
                    self.desk.say(row)
                self.assertIs(caught.exception, error)
                self.says("free zoe", "refused noname", "act zoe", "refused noname", "lock ", "refused noseal")
            broken.clear()
            self.says("act ann", "1", "judge", "ok")


if __name__ == "__main__":
    unittest.main()
