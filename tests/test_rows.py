"""Long rows of deeds, taken by chance from fixed seeds, beside a plain telling of what the document asks."""

import copy
import random
import unittest

from callboard.bills import bills, owed
from callboard.board import Board, picture
from callboard.deeds import do, refusal
from callboard.errors import NoDeed
from callboard.plans import Plan
from callboard.replay import replayed
from callboard.routes import rings_of

WORDS = ("call", "answer", "hang", "hold", "back", "hand", "join", "turn", "on", "off")


def random_wish(chance, phones, names):
    first, second = chance.sample(names, 2)
    phone = chance.choice(phones)
    some = lambda among: tuple(chance.sample(among, chance.randint(1, min(2, len(among)))))
    return chance.choice([
        ("bar", phone, some(names)), ("shut", first, some(phones)), ("always", first, second),
        ("night", first, second) + tuple(chance.sample(range(24), 2)), ("busy", first, second),
        ("silent", first, second, chance.randint(1, 3)), ("silent", first, second, chance.randint(1, 3)),
        ("busy", phone, second) if phone != second else ("wait", phone), ("wait", phone), ("wait", phone),
        ("breaks", phone), ("breaks", phone),
    ])


def random_forward(chance, phones, names):
    first, second = chance.sample(names, 2)
    return chance.choice([("always", first, second), ("busy", first, second), ("silent", first, second, 1)])


def random_parts(chance, make_wish):
    """The phones, groups and wishes of a plan."""
    letters = list("abcdefghij")
    chance.shuffle(letters)
    many = chance.randint(2, 6)
    phones = [(letters.pop(), chance.choice((1, 1, 2, 2, 3)), chance.randint(0, 9)) for _ in range(many)]
    members = [phone[0] for phone in phones]
    groups = [
        (letters.pop(), chance.choice(("all", "turns")), tuple(chance.sample(members, chance.randint(1, min(4, many)))))
        for _ in range(chance.randint(0, 3))
    ]
    names = members + [group[0] for group in groups]
    wishes = [(chance.random() < 0.8, make_wish(chance, members, names)) for _ in range(chance.randint(0, 8))]
    return phones, groups, wishes


def random_deed(chance, board):
    phones = board.plan.phone_names()
    word = chance.choice(WORDS[:3] * 5 + WORDS[3:7] * 3 + ("turn",) * 3 + WORDS[8:])
    phone = chance.choice(phones)
    last = len(board.calls)
    numbers = [number for number, call in enumerate(board.calls) if call.state != "over"] * 4 + [last - 1, last, -1]
    number, other = chance.choice(numbers), chance.choice(numbers)
    if word == "turn":
        return ("turn",)
    if word in ("on", "off"):
        return (word, chance.randint(-1, len(board.on)))
    if word == "call":
        return ("call", phone, chance.choice(board.plan.names() * 3 + ["zzz"]))
    if word in ("hand", "join"):
        return (word, phone, number, other)
    return (word, phone, number)


def likely_deed(chance, board):
    """A deed that is seldom refused, so that rows come to talks, held calls and merges."""
    for number, call in enumerate(board.calls):
        if call.state == "held" and board.talk_of(call.holder) is not None and chance.random() < 0.2:
            return (chance.choice(("hand", "join")), call.holder, number, board.talk_of(call.holder))
    deed = random_deed(chance, board)
    for again in range(20):
        if refusal(board, deed) is None:
            return deed
        deed = random_deed(chance, board)
    return deed


class Telling:
    """The document's points 9 to 16 once more, over plain dicts, with nothing of the package."""

    def __init__(self, phones, groups, wishes, hour):
        self.lines = {name: lines for name, lines, rank in phones}
        self.ranks = {name: rank for name, lines, rank in phones}
        self.groups = {name: (manner, members) for name, manner, members in groups}
        self.wishes = [wish for on, wish in wishes]
        self.on = [on for on, wish in wishes]
        self.hour = hour
        self.calls = []
        self.nexts = {name: 0 for name, manner, members in groups if manner == "turns"}
        self.told = []

    def those(self, *states):
        return [call for call in self.calls if call["state"] in states]

    def used(self, phone):
        rung = [call for call in self.those("rings") if phone == call["caller"] or phone in call["at"]]
        waiting = [call for call in self.those("waits") if phone == call["caller"]]
        joined = [call for call in self.those("talks", "held") if phone in call["members"]]
        return len(rung + waiting + joined)

    def bound(self, phone):
        talks = [call for call in self.those("talks") if phone in call["members"]]
        return talks + [call for call in self.those("held") if phone in call["members"] and call["holder"] != phone]

    def calling(self, phone):
        return [call for call in self.those("rings", "waits") if call["caller"] == phone]

    def members(self, name):
        return self.groups[name][1] if name in self.groups else (name,)

    def free(self, phone):
        return self.used(phone) < self.lines[phone]

    def ringable(self, caller, name):
        return [phone for phone in self.members(name) if phone != caller and self.free(phone)]

    def fits(self, wish, caller, target):
        word, first = wish[0], wish[1]
        busy = not self.ringable(caller, target)
        if word == "bar":
            return caller == first and target in wish[2]
        if word == "breaks":
            talks = [call for call in self.those("talks") if target in call["members"] and len(call["members"]) == 2]
            less = [call for call in talks if max(self.ranks[phone] for phone in call["members"]) < self.ranks[first]]
            return caller == first and target in self.lines and target != first and busy and less != []
        if target != first or word == "silent":
            return False
        if word == "shut":
            return caller in wish[2]
        if word == "night":
            hours = [hour % 24 for hour in range(wish[3], wish[4] if wish[3] < wish[4] else wish[4] + 24)]
            return self.hour in hours
        if word == "wait":
            return caller != first and busy and not [call for call in self.those("waits") if call["at"] == [first]]
        return word == "always" or busy

    def tell(self, *event):
        self.told.append(event)

    def leg(self, k, start, end, by):
        self.tell("leg", k, start, end, by)
        self.calls[k]["way"].append(end)

    def over(self, k, word):
        self.tell("over", k, word)
        self.calls[k].update(state="over", word=word, at=[], members=[], holder=None)

    def merge(self, k, m, members):
        self.tell("merge", k, m, tuple(members))
        self.calls[k].update(state="over", word="merged", at=[], members=[], holder=None)
        self.calls[m]["members"] = list(members)

    def talk(self, k, members):
        self.tell("talks", k, tuple(members))
        self.calls[k].update(state="talks", members=list(members), at=[], holder=None)

    def go_on(self, k):
        """One step; the next one, if there is one, is taken by the same."""
        call = self.calls[k]
        target, caller = call["way"][-1], call["caller"]
        if target in call["way"][:-1]:
            return self.over(k, "ring")
        fitting = [i for i, wish in enumerate(self.wishes) if self.on[i] and self.fits(wish, caller, target)]
        self.tell("asks", k, target, tuple(fitting))
        if not fitting:
            return self.ring(k, target, caller)
        wish = self.wishes[fitting[0]]
        if wish[0] in ("bar", "shut"):
            return self.over(k, "barred")
        if wish[0] == "wait":
            self.tell("waits", k, target)
            return call.update(state="waits", at=[target])
        if wish[0] == "breaks":
            talk = [call for call in self.those("talks") if target in call["members"]][0]
            return self.merge(k, self.calls.index(talk), talk["members"] + [caller])
        self.leg(k, target, wish[2], target)
        return self.go_on(k)

    def ring(self, k, target, caller):
        phones = self.ringable(caller, target)
        if not phones:
            return self.over(k, "engaged")
        if target in self.nexts:
            members = self.members(target)
            round_again = list(range(len(members))) * 2
            places = [place for place in round_again[self.nexts[target]:] if members[place] in phones]
            phones = [members[places[0]]]
            self.nexts[target] = round_again[places[0] + 1]
            self.tell("next", target, self.nexts[target])
        self.tell("rings", k, tuple(phones))
        self.calls[k].update(state="rings", at=phones, since=0)

    def first_due(self, *pairs):
        return ([word for word, due in pairs if due] + [None])[0]

    def refusal(self, deed):
        word, parts = deed[0], deed[1:]
        if word == "turn":
            return None
        if word in ("on", "off"):
            there = parts[0] in range(len(self.on))
            return None if there and self.on[parts[0]] != (word == "on") else "wish"
        a = parts[0]
        if a not in self.lines or word == "call" and parts[1] not in list(self.lines) + list(self.groups):
            return "name"
        idle = (("bound", self.bound(a)), ("calls", self.calling(a)))
        if word == "call":
            return self.first_due(*idle, ("full", not self.free(a)))
        call, *others = [self.calls[k] if k in range(len(self.calls)) else dict(state="none") for k in parts[1:]]
        state = call["state"]
        held = state == "held" and call["holder"] == a
        if word == "answer":
            there = state in ("rings", "waits") and a in call["at"]
            return self.first_due(("call", not there), *idle, ("full", state == "waits" and not self.free(a)))
        if word == "hang":
            ends = dict(rings="at", waits="at", talks="members", held="members").get(state)
            there = ends and (a in call[ends] or ends == "at" and a == call["caller"])
            return None if there else "call"
        if word == "back":
            return self.first_due(("call", not held), *idle)
        pair = call if word == "hold" else others[0]
        pairs = pair["state"] == "talks" and len(pair["members"]) == 2 and a in pair["members"]
        return None if pairs and (word == "hold" or held) else "call"

    def do(self, deed):
        """The events of a deed that is not refused."""
        self.told = []
        word, parts = deed[0], deed[1:]
        if word == "turn":
            self.turn()
        elif word in ("on", "off"):
            self.tell(*deed)
            self.on[parts[0]] = word == "on"
        elif word == "call":
            k = len(self.calls)
            self.tell("new", k, parts[0])
            self.calls.append(dict(
                state="rings", caller=parts[0], way=[], at=[], members=[], holder=None, since=0, word=None,
            ))
            self.leg(k, parts[0], parts[1], parts[0])
            self.go_on(k)
        else:
            self.do_at(word, *parts)
        return self.told

    def do_at(self, word, a, k, m=None):
        call = self.calls[k]
        if word == "answer":
            self.talk(k, (call["caller"], a))
        elif word == "back":
            self.talk(k, call["members"])
        elif word == "hold":
            self.tell("held", k, a)
            call.update(state="held", holder=a)
        elif word == "hang":
            self.hang(k, call, a)
        else:
            others = [phone for phone in call["members"] + self.calls[m]["members"] if phone != a]
            self.merge(k, m, others if word == "hand" else [a] + others)

    def hang(self, k, call, a):
        if call["state"] in ("rings", "waits") and call["caller"] == a:
            self.over(k, "left")
        elif call["state"] in ("rings", "waits"):
            self.tell("leaves", k, a)
            call["at"].remove(a)
            if not call["at"]:
                self.over(k, "refused")
        elif len(call["members"]) == 3:
            self.tell("leaves", k, a)
            call["members"].remove(a)
        else:
            self.over(k, "done")

    def turn(self):
        self.tell("turn")
        self.hour = (self.hour + 1) % 24
        for call in self.those("rings"):
            call["since"] += 1
        for k, call in enumerate(self.calls):
            if call["state"] != "rings":
                continue
            name = call["way"][-1]
            due = [
                i for i, wish in enumerate(self.wishes)
                if self.on[i] and wish[0] == "silent" and wish[1] == name and wish[3] <= call["since"]
            ]
            if due:
                self.tell("asks", k, name, tuple(due))
                self.tell("quiet", k)
                call["at"] = []
                self.leg(k, name, self.wishes[due[0]][2], name)
                self.go_on(k)

    def picture(self):
        return tuple([
            (call["state"], call["caller"], tuple(call["way"]), tuple(call["at"]), tuple(call["members"]),
             call["holder"], call["since"], call["word"])
            for call in self.calls
        ])


def rows(seed, many, length=80, make_wish=random_wish):
    """Boards with a chance for each, on which rows of deeds are yet to be done."""
    for number in range(many):
        chance = random.Random(f"{seed} {number}")
        parts = random_parts(chance, make_wish)
        hour = chance.randint(0, 23)
        yield chance, parts, hour, Board(Plan(*parts), hour), range(length)


class Rows(unittest.TestCase):
    def test_as_told(self):
        words, ends, states = set(), set(), set()
        for chance, parts, hour, board, deeds in rows("as told", 120):
            telling = Telling(*parts, hour)
            for place in deeds:
                for deed in [random_deed(chance, board) for again in range(8)] + [likely_deed(chance, board)]:
                    word = telling.refusal(deed)
                    self.assertEqual(refusal(board, deed), word, (deed, board.log))
                    words.add((deed[0], word))
                if word is None:
                    self.assertEqual(do(board, deed), telling.do(deed), (deed, board.log))
                else:
                    with self.assertRaises(NoDeed):
                        do(board, deed)
                self.assertEqual(picture(board)[1], telling.picture())
                self.assertEqual((board.on, board.nexts), (telling.on, telling.nexts))
                states.update((call.state, len(call.members)) for call in board.calls)
            ends.update(call.word for call in board.calls)
        # The rows have come to all that there is to come to.
        self.assertEqual(ends, {None, "left", "refused", "done", "merged", "barred", "engaged", "ring"})
        self.assertEqual(states, {("rings", 0), ("waits", 0), ("talks", 2), ("talks", 3), ("held", 2), ("over", 0)})
        self.assertEqual({word for word, due in words if due is None}, set(WORDS))
        due = {(word, due) for word, due in words if due not in (None, "name")}
        self.assertEqual(due, {
            ("call", "bound"), ("call", "calls"), ("call", "full"), ("answer", "call"), ("answer", "bound"),
            ("answer", "calls"), ("answer", "full"), ("hang", "call"), ("hold", "call"), ("back", "call"),
            ("back", "bound"), ("back", "calls"), ("hand", "call"), ("join", "call"), ("on", "wish"), ("off", "wish"),
        })

    def test_who_is_in_calls(self):
        for chance, parts, hour, board, deeds in rows("who is in calls", 60):
            for place in deeds:
                deed = likely_deed(chance, board)
                if refusal(board, deed) is None:
                    do(board, deed)
                self.check_phones(board, {name: lines for name, lines, rank in parts[0]})
                for call in picture(board)[1]:
                    self.check_call(*call)

    def check_phones(self, board, lines):
        told = picture(board)[1]
        for phone in lines:
            bound = calling = used = 0
            for state, caller, way, at, members, holder, since, word in told:
                calling += state in ("rings", "waits") and caller == phone
                bound += state == "talks" and phone in members
                bound += state == "held" and phone in members and holder != phone
                used += state == "rings" and (caller == phone or phone in at)
                used += state == "waits" and caller == phone
                used += state in ("talks", "held") and phone in members
            self.assertLessEqual(bound + calling, 1, (phone, board.log))
            self.assertLessEqual(used, lines[phone], (phone, board.log))
            self.assertEqual(board.used(phone), used)
            self.assertEqual(board.bound(phone) is not None, bound == 1)
            self.assertEqual(board.calling(phone) is not None, calling == 1)

    def check_call(self, state, caller, way, at, members, holder, since, word):
        sizes = (len(at), len(members))
        if state == "rings":
            self.assertGreaterEqual(len(at), 1)
            self.assertNotIn(caller, at)
        self.assertIn(sizes, {
            "rings": [(many, 0) for many in range(1, 5)], "waits": [(1, 0)], "talks": [(0, 2), (0, 3)],
            "held": [(0, 2)], "over": [(0, 0)],
        }[state])
        self.assertEqual(holder is not None, state == "held")
        self.assertEqual(word is not None, state == "over")
        self.assertEqual(len(set(at)) + len(set(members)), sum(sizes))
        if state == "held":
            self.assertIn(holder, members)
        self.assertGreaterEqual(len(way), 1)
        self.assertEqual(len(set(way)), len(way) - (word == "ring"))

    def test_a_refused_deed_changes_nothing(self):
        for chance, parts, hour, board, deeds in rows("refused", 25):
            for place in deeds:
                deed = random_deed(chance, board)
                before = copy.deepcopy((picture(board), board.legs, board.log))
                word = refusal(board, deed)
                self.assertEqual((picture(board), board.legs, board.log), before)
                try:
                    do(board, deed)
                    self.assertIsNone(word)
                except NoDeed as refused:
                    self.assertEqual(refused.word, word)
                    self.assertEqual((picture(board), board.legs, board.log), before)

    def test_logs(self):
        for chance, parts, hour, board, deeds in rows("logs", 25):
            plan, log, stages = board.plan, [], [copy.deepcopy((picture(board), board.legs, board.log))]
            for place in deeds:
                deed = likely_deed(chance, board)
                if refusal(board, deed) is None:
                    told = do(board, deed)
                    log.extend(told)
                    told.reverse()
                    told.append(("turn",))
                    self.assertEqual(board.log, log)
                    stages.append(copy.deepcopy((picture(board), board.legs, board.log)))
            for stage in stages:
                again = replayed(plan, hour, log[:len(stage[2])])
                self.assertEqual((picture(again), again.legs, again.log), stage)
            cut = replayed(plan, hour, log[:chance.randint(0, len(log))])
            do(cut, ("turn",))
            self.assertEqual((picture(board), board.legs, board.log), stages[-1])

    def test_bills(self):
        for chance, parts, hour, board, deeds in rows("bills", 40):
            units = []
            for place in deeds:
                deed = likely_deed(chance, board)
                if deed == ("turn",):
                    counted = [board.calls[leg[0]].state in ("talks", "held") for leg in board.legs]
                    units = [told + more for told, more in zip(units, counted)]
                if refusal(board, deed) is None:
                    do(board, deed)
                units += [0] * (len(board.legs) - len(units))
            expected = [leg[1:] + (told,) for leg, told in zip(board.legs, units)]
            self.assertEqual(bills(board.log), expected)
            names = sorted({leg[3] for leg in board.legs})
            sums = [(name, sum(bill[3] for bill in expected if bill[2] == name)) for name in names]
            self.assertEqual(owed(board.log), sums)

    def test_legs_and_places_follow_from_the_events(self):
        for chance, parts, hour, board, deeds in rows("legs", 25):
            for place in deeds:
                deed = likely_deed(chance, board)
                if refusal(board, deed) is None:
                    do(board, deed)
            legs, nexts = [], {name: 0 for name, manner, members in parts[1] if manner == "turns"}
            for event in board.log:
                if event[0] == "leg":
                    legs.append(event[1:])
                elif event[0] == "merge":
                    legs = [(event[2] if leg[0] == event[1] else leg[0],) + leg[1:] for leg in legs]
                elif event[0] == "next":
                    nexts[event[1]] = event[2]
            self.assertEqual((board.legs, board.nexts), (legs, nexts))
            self.assertEqual(picture(board)[2], tuple(sorted(nexts.items())))


class OffWishes(unittest.TestCase):
    def check_same(self, chance, board, without, deeds):
        for place in deeds:
            deed = likely_deed(chance, board)
            while deed[0] in ("on", "off"):
                deed = likely_deed(chance, board)
            self.assertEqual(refusal(without, deed), refusal(board, deed))
            if refusal(board, deed) is None:
                do(board, deed)
                do(without, deed)
            self.assertEqual(picture(without)[:3], picture(board)[:3])
            self.assertEqual(without.legs, board.legs)

    def test_off_in_the_plan(self):
        for chance, (phones, groups, wishes), hour, board, deeds in rows("off in the plan", 40, 50):
            left = [(on, wish) for on, wish in wishes if on]
            self.check_same(chance, board, Board(Plan(phones, groups, left), hour), deeds)

    def test_turned_off(self):
        for chance, (phones, groups, wishes), hour, board, deeds in rows("turned off", 40, 50):
            for number in range(len(wishes)):
                if board.on[number] and chance.random() < 0.5:
                    do(board, ("off", number))
            left = [(True, wish) for (on, wish), still in zip(wishes, board.on) if still]
            self.check_same(chance, board, Board(Plan(phones, groups, left), hour), deeds)


class RingsOfCalls(unittest.TestCase):
    def test_each_is_one_of_the_plans(self):
        found = 0
        for chance, parts, hour, board, deeds in rows("rings", 80, 40, random_forward):
            known = rings_of(board.plan)
            for place in deeds:
                deed = likely_deed(chance, board)
                if deed[0] not in ("on", "off") and refusal(board, deed) is None:
                    do(board, deed)
            for call in board.calls:
                if call.word == "ring":
                    names = call.way[call.way.index(call.way[-1]):-1]
                    least = names.index(min(names))
                    self.assertIn(names[least:] + names[:least], known)
                    found += 1
        self.assertGreater(found, 20)


if __name__ == "__main__":
    unittest.main()
