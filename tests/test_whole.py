"""The whole program, as long sheets of deeds drawn from fixed seeds show it."""

import random
import unittest

from callboard.board import Board
from callboard.deeds import do
from callboard.errors import NoDeed
from callboard.looker import choices
from callboard.plans import Plan
from callboard.run import run
from callboard.texts import show_plan

STATES = {"rings", "waits", "talks", "held", "over"}
DEED_WORDS = {"call", "answer", "hang", "hold", "back", "hand", "join", "turn", "on", "off"}


def drawn_wish(chance, phones, names):
    first, second = chance.sample(names, 2)
    phone = chance.choice(phones)
    few = tuple(chance.sample(phones, chance.randint(1, 2)))
    return chance.choice([
        ("bar", phone, few), ("shut", first, few), ("always", first, second), ("busy", phone, first),
        ("night", first, second, chance.randint(0, 11), chance.randint(12, 23)), ("wait", phone), ("wait", phone),
        ("silent", first, second, chance.randint(1, 3)), ("busy", first, second), ("breaks", phone), ("breaks", phone),
    ])


def drawn_forward(chance, phones, names):
    first, second = chance.sample(names, 2)
    return chance.choice([("always", first, second), ("busy", first, second), ("silent", first, second, 1)])


def drawn_parts(chance, draw, wishes=8):
    phones = chance.sample(["hour", "show", "turn", "off", "ann", "bob", "cy", "dee"], chance.randint(3, 6))
    groups = [
        (name, chance.choice(("all", "turns", "turns")), tuple(chance.sample(phones, chance.randint(1, 3))))
        for name in chance.sample(["look", "desk", "on"], chance.randint(0, 3))
    ]
    names = phones + [group[0] for group in groups]
    pairs = [(chance.random() < 0.7, draw(chance, phones, names)) for again in range(chance.randint(2, wishes))]
    pairs = [(on, wish) for on, wish in pairs if wish[0] != "busy" or wish[1] != wish[2]]
    return [(name, chance.randint(1, 3), chance.randint(0, 9)) for name in phones], groups, pairs


def drawn_deed(chance, board, switches):
    """By word first, since calls are most of what can be done; now and then one that is refused or switches."""
    if switches and chance.random() < 0.1:
        return (chance.choice(("on", "off")), chance.randint(0, len(board.on)))
    if chance.random() < 0.1:
        word = chance.choice(("hang", "hold", "back", "answer"))
        return (word, chance.choice(board.plan.names()), chance.randint(0, 20))
    found = [deed for deed in choices(board) if deed[0] not in ("hang", "back", "turn") or chance.random() < 0.15]
    if not found:
        return ("turn",)
    word = chance.choice(sorted({deed[0] for deed in found}))
    return chance.choice([deed for deed in found if deed[0] == word])


def drawn_deeds(chance, parts, hour, many, switches):
    board, deeds = Board(Plan(*parts), hour), []
    for again in range(many):
        deeds.append(drawn_deed(chance, board, switches))
        try:
            do(board, deeds[-1])
        except NoDeed:
            pass
    return deeds


def row_of(order):
    return " ".join(str(part) for part in order)


def answers_of(parts, hour, orders):
    text = "\n".join([show_plan(Plan(*parts)), f"hour {hour}"] + [row_of(order) for order in orders])
    # What a sheet may hold at most.
    if len(text) > 8000 or text.count("\n") >= 200:
        raise AssertionError("too long a sheet")
    return run(text)


def sheets(seed, many, draw=drawn_wish, switches=True, length=80):
    """The parts of plans, each with an hour and a row of deeds that is drawn by them."""
    for number in range(many):
        chance = random.Random(f"{seed} {number}")
        parts, hour = drawn_parts(chance, draw), chance.randint(0, 23)
        yield parts, hour, drawn_deeds(chance, parts, hour, length, switches)


def answers_and_pictures(parts, hour, deeds):
    """Each deed's answer with the picture that is shown behind it."""
    orders = [order for deed in deeds for order in (deed, ("show",))]
    told = answers_of(parts, hour, orders)
    assert len(told) == 2 * len(deeds)
    return [(answer, shown[1]) for answer, shown in zip(told[::2], told[1::2])]


class Following:
    """Point 11 once more, over dicts, and the legs of point 18, by the events alone."""

    def __init__(self, parts):
        self.turns = 0
        self.calls = []
        self.legs = []
        self.nexts = {name: 0 for name, manner, members in parts[1] if manner == "turns"}
        self.on = [on for on, wish in parts[2]]

    def follow(self, event):
        word, rest = event[0], event[1:]
        if word == "new":
            assert rest[0] == len(self.calls)
            self.calls.append(dict(
                state="rings", caller=rest[1], way=(), at=(), members=(), holder=None, since=0, word=None,
            ))
        elif word == "turn":
            self.turns += 1
            for call in self.calls:
                call["since"] += call["state"] == "rings"
            for leg in self.legs:
                leg["units"] += self.calls[leg["call"]]["state"] in ("talks", "held")
        elif word in ("on", "off"):
            self.on[rest[0]] = word == "on"
        elif word == "next":
            self.nexts[rest[0]] = rest[1]
        else:
            self.follow_call(word, rest[0], self.calls[rest[0]], rest[1:])

    def follow_call(self, word, number, call, rest):
        if word == "leg":
            self.legs.append(dict(call=number, by=rest[2], units=0))
            call["way"] += (rest[1],)
        elif word == "rings":
            call.update(state="rings", at=rest[0], since=0)
        elif word == "quiet":
            call.update(at=())
        elif word == "waits":
            call.update(state="waits", at=(rest[0],))
        elif word == "talks":
            call.update(state="talks", members=rest[0], at=(), holder=None)
        elif word == "held":
            call.update(state="held", holder=rest[0])
        elif word == "leaves":
            for part in ("at", "members"):
                call[part] = tuple(phone for phone in call[part] if phone != rest[0])
        elif word == "over":
            call.update(state="over", at=(), members=(), holder=None, word=rest[0])
        elif word == "merge":
            call.update(state="over", at=(), members=(), holder=None, word="merged")
            self.calls[rest[0]]["members"] = rest[1]
            for leg in self.legs:
                leg["call"] = rest[0] if leg["call"] == number else leg["call"]
        else:
            assert word == "asks", word

    def picture(self):
        calls = tuple(tuple(call.values()) for call in self.calls)
        return (self.turns, calls, tuple(sorted(self.nexts.items())), tuple(self.on))

    def owed(self):
        names = sorted({leg["by"] for leg in self.legs})
        return [(name, sum(leg["units"] for leg in self.legs if leg["by"] == name)) for name in names]


class Pictures(unittest.TestCase):
    def test_each_is_the_one_that_the_events_lead_to(self):
        states, ends, words = set(), set(), set()
        for parts, hour, deeds in sheets("pictures", 40):
            following = Following(parts)
            for deed, (answer, shown) in zip(deeds, answers_and_pictures(parts, hour, deeds)):
                if answer[0] == "done":
                    self.assertGreater(len(answer[1]), 0)
                    for event in answer[1]:
                        following.follow(event)
                    words.add(deed[0])
                else:
                    self.assertEqual(answer[0], "refused")
                    self.assertIn(answer[1], ("name", "call", "bound", "calls", "full", "wish"))
                self.assertEqual(shown, following.picture())
            states |= {call[0] for call in shown[1]}
            ends |= {call[7] for call in shown[1]}
        # The sheets have come to all that there is to come to.
        self.assertEqual((states, words), (STATES, DEED_WORDS))
        self.assertEqual(ends, {None, "left", "refused", "done", "merged", "barred", "engaged", "ring"})

    def test_who_is_where(self):
        for parts, hour, deeds in sheets("who is where", 25):
            lines = {name: many for name, many, rank in parts[0]}
            for answer, shown in answers_and_pictures(parts, hour, deeds):
                for phone in lines:
                    self.check_phone(phone, lines[phone], shown[1])

    def check_phone(self, phone, lines, calls):
        talks = bound = calling = used = 0
        for state, caller, way, at, members, holder, since, word in calls:
            talks += state == "talks" and phone in members
            bound += state in ("talks", "held") and phone in members and phone != holder
            calling += state in ("rings", "waits") and phone == caller
            used += state in ("talks", "held") and phone in members
            used += state == "waits" and phone == caller
            used += state == "rings" and (phone == caller or phone in at)
        self.assertLessEqual(talks, 1)
        self.assertLessEqual(bound + calling, 1)
        self.assertLessEqual(used, lines)

    def test_show_changes_nothing(self):
        for parts, hour, deeds in sheets("show", 10):
            told = answers_and_pictures(parts, hour, deeds)
            self.assertEqual([answer for answer, shown in told], answers_of(parts, hour, deeds))


class Owed(unittest.TestCase):
    def test_the_sum_over_the_legs(self):
        sums = 0
        for parts, hour, deeds in sheets("owed", 30, length=75):
            following = Following(parts)
            told = answers_of(parts, hour, [order for deed in deeds for order in (deed, ("owed",))])
            for answer, owed in zip(told[::2], told[1::2]):
                if answer[0] == "done":
                    for event in answer[1]:
                        following.follow(event)
                self.assertEqual(owed, ("owed", following.owed()))
            sums += sum(units for name, units in owed[1])
        self.assertGreater(sums, 100)


class WishesThatAreOff(unittest.TestCase):
    def renumbered(self, answer, places):
        """The answer with the numbers that the wishes have where those that are off are left out."""
        if answer[0] == "done":
            return ("done", [
                event[:3] + (tuple(places[i] for i in event[3]),) if event[0] == "asks" else event
                for event in answer[1]
            ])
        if answer[0] == "show":
            return ("show", answer[1][:3])
        if answer[0] == "look" and answer[1][0] == "clash":
            target, i, j = answer[1][2]
            return ("look", ("clash", answer[1][1], (target, places[i], places[j])))
        return answer

    def test_a_sheet_without_them(self):
        asked = found = 0
        for parts, hour, deeds in sheets("off", 40, switches=False, length=70):
            phones, groups, pairs = parts
            left = [i for i, (on, wish) in enumerate(pairs) if on]
            places = {i: place for place, i in enumerate(left)}
            orders = [order for deed in deeds for order in (deed, ("show",))]
            orders += [("owed",), ("rings",), ("look", 1), ("look", 2)]
            told = [self.renumbered(answer, places) for answer in answers_of(parts, hour, orders)]
            without = answers_of((phones, groups, [pairs[i] for i in left]), hour, orders)
            same = {place: place for place in range(len(left))}
            self.assertEqual([self.renumbered(answer, same) for answer in without], told)
            events = [event for answer in told if answer[0] == "done" for event in answer[1]]
            asked += sum(event[0] == "asks" and len(event[3]) > 0 for event in events)
            found += told[-1][1] != ("none",)
        self.assertGreater(asked, 100)
        self.assertGreater(found, 5)


class Rings(unittest.TestCase):
    def test_no_call_goes_round_but_in_a_ring_of_the_plan(self):
        kinds = {True: 0, False: 0}
        round_about = 0
        for parts, hour, deeds in sheets("rings", 60, drawn_forward, switches=False):
            told = answers_of(parts, hour, [("rings",)] + deeds + [("rings",), ("show",)])
            self.assertEqual(told[0], told[-2])
            rings = told[0][1]
            kinds[rings == []] += 1
            for call in told[-1][1][1]:
                if call[7] == "ring":
                    way = list(call[2])
                    names = way[way.index(way[-1]):-1]
                    least = names.index(min(names))
                    self.assertIn(names[least:] + names[:least], rings)
                    round_about += 1
        self.assertGreater(min(kinds.values()), 5)
        self.assertGreater(round_about, 20)


class TheSameAgain(unittest.TestCase):
    def test_a_sheet_that_is_run_twice(self):
        for parts, hour, deeds in sheets("twice", 5):
            orders = deeds + [("show",), ("owed",), ("rings",), ("look", 2)]
            self.assertEqual(answers_of(parts, hour, orders), answers_of(parts, hour, orders))

    def test_no_two_lists_are_one(self):
        for parts, hour, deeds in sheets("lists", 5, length=40):
            orders = [order for deed in deeds for order in (deed, ("owed",), ("rings",), ("look", 1))]
            told = answers_of(parts, hour, orders)
            lists = [told]
            for answer in told:
                self.lists_in(answer, lists)
            self.assertEqual(len({id(one) for one in lists}), len(lists))

    def lists_in(self, thing, lists):
        if isinstance(thing, list):
            lists.append(thing)
        if isinstance(thing, (list, tuple)):
            for part in thing:
                self.lists_in(part, lists)


if __name__ == "__main__":
    unittest.main()
