"""Promises [81], [82] and the interface of hookvows/alike.py: sightings, and hosts that are alike."""

import itertools
import random
import unittest

from hookvows.alike import are_alike, can_compare, parting_play, sightings
from hookvows.boxes import Boxes
from hookvows.errors import InvalidDeed, InvalidHost, InvalidPlay, OtherHosts, TooMany
from hookvows.graphs import WANTED
from hookvows.hosts import RANKS, Host
from hookvows.pairs import PairGraph
from hookvows.plans import Plan
from hookvows.scripts import Play, Script
from hookvows.search import Search
from hookvows.statements import Call, Do, Fail, Fire, Guard, If, Last, Put
from tests.brute import each_play
from tests.model import Model, random_body, random_host, random_script
from tests.sample_hosts import BIT, bit_host, nested_host, pay_host
from tests.samples import odd_values


def with_all(host, *without):
    """The host with all powers, but those with these verbs."""
    return host + [power for power in host.all_powers() if power[2] not in without]


def changed(host, random_one):
    """A host that can be compared with this one and is much like it."""
    deeds = [[deed, host.body(deed)] for deed in host.deeds()]
    hooks = {hook: host.core(hook) for hook in host.hooks()}
    first = host.first
    kind = random_one.randrange(7)
    box = random_one.choice(host.boxes.names())
    rows = random_one.choice(deeds)[1]
    at = random_one.randint(0, len(rows))
    if kind == 0:
        first = random_one.choice(host.boxes.states())
    elif kind == 1:
        rows.insert(at, random_one.choice([Do("s1"), Do("s4"), Put(box, 0), Fail(), Guard([]), If(box, 0, [Do("s2")])]))
    elif kind == 2 and hooks:
        random_one.choice(list(hooks.values())).insert(0, random_one.choice([Do("s1"), Put(box, 0), Guard([Fail()]), Fail()]))
    elif kind == 3:
        rows[:] = [Guard([Last(list(rows), [])], [Fail()])]
    elif kind == 4:
        rows[:] = [Guard(host.body(row.deed), [Fail()]) if isinstance(row, Call) else row for row in rows]
    elif kind == 5:
        rows[:] = rows[1:]
    else:
        deeds = deeds[::-1]
    return [tuple(deed) for deed in deeds], hooks, first


def pairs(seeds):
    """Hosts that can be compared, with some that are alike."""
    for seed in seeds:
        random_one, host = random.Random(seed), random_host(seed)
        deeds, hooks, first = changed(host, random_one)
        try:
            other = Host(host.boxes, first, deeds, hooks, host.open_deeds(), host.powers())
        except (InvalidDeed, TooMany):
            continue
        yield random_one, host, other


def sightings_by_model(host, play, sees_steps):
    """The sightings of the play, by the model."""
    found, rows, state = [], play.script.rows(), host.first
    for deed in play.calls():
        model = Model(host, state, [(rank, rows) for rank in RANKS])
        way = model.run(deed)
        state = model.state()
        found += [item for item in model.shown if sees_steps or item[0] != "did"]
        found.append(("ended", way, state))
    return found


class TestSightings(unittest.TestCase):
    def told(self, host, *rows, calls=("run",), steps=False):
        return sightings(host, Play(calls, Script(*rows)), steps)

    def visits(self, *ranks):
        return [("visited", "h", rank) for rank in ranks]

    def test_calls_alone(self):
        self.assertEqual(self.told(bit_host([Do("one"), Put("a", 1)])), [("ended", "well", (1,))])
        self.assertEqual(self.told(bit_host([Fail()]), calls=("run", "run")), [("ended", "failed", (0,))] * 2)
        self.assertEqual(self.told(bit_host([]), calls=()), [])

    def test_steps(self):
        host = bit_host([Do("one"), Fire("h"), Do("two")], core=[Do("core")])
        end = ("ended", "well", (0,))
        self.assertEqual(self.told(host), [*self.visits(*RANKS), end])
        self.assertEqual(
            self.told(host, steps=True),
            [("did", "one"), *self.visits("ahead", "around"), ("did", "core"), *self.visits("behind"), ("did", "two"), end],
        )
        self.assertEqual(sightings(host, Play(["run"], Script()), steps=True), sightings(host, Play(["run"], Script()), True))

    def test_looks_and_doors(self):
        host = bit_host([Fire("h")], [("h", "ahead", "door", "low")], further=[("low", [Do("in"), Put("a", 1), Fail()])])
        self.assertEqual(
            self.told(host, [("look",), ("door", "low"), ("look",)]),
            [("visited", "h", "ahead"), ("looked", (0,)), ("door", "low", "failed"), ("looked", (1,)),
             *self.visits("around", "behind"), ("ended", "well", (1,))],
        )

    def test_doors_show_the_runs_within_them(self):
        host = bit_host([Fire("h"), Put("a", 1)], [("h", "behind", "door", "run")])
        self.assertEqual(
            self.told(host, [], [], [("door", "run"), ("look",)], [("look",)]),
            [*self.visits(*RANKS), ("visited", "h", "ahead"), ("looked", (0,)), *self.visits("around", "behind"),
             ("door", "run", "well"), ("looked", (1,)), ("ended", "well", (1,))],
        )

    def test_calls_by_call_show_nothing(self):
        host = bit_host([Guard([Call("low")])], further=[("low", [Put("a", 1), Fail()])])
        self.assertEqual(self.told(host), [("ended", "well", (1,))])

    def test_what_comes_within(self):
        host = with_all(bit_host([Fire("h")], core=[Put("a", 1), Fail()]))
        begin = self.visits("ahead", "around")
        failed, well = ("ended", "failed", (1,)), [("visited", "h", "behind"), ("ended", "well", (1,))]
        # Without an act it shows nothing.
        self.assertEqual(self.told(host), [*begin, failed])
        self.assertEqual(self.told(host, [], [("inner",)]), [*begin, ("inner", "failed"), failed])
        self.assertEqual(self.told(host, [], [("swallow",)]), [*begin, ("inner", "failed"), *well])
        self.assertEqual(
            self.told(host, [], [("swallow",), ("inner",), ("look",)]),
            [*begin, ("inner", "failed"), ("inner", "failed"), ("looked", (1,)), failed],
        )
        self.assertEqual(self.told(host, [], [("skip",), ("inner",)]), [*begin, ("visited", "h", "behind"), ("ended", "well", (0,))])
        host = bit_host([Fire("h")])
        self.assertEqual(self.told(host, [], [("inner",), ("look",)])[2:4], [("inner", "well"), ("looked", (0,))])

    def test_acts_that_are_not_let_show_nothing(self):
        host = bit_host([Fire("h")])
        acts = [("lend", "a", 1), ("door", "run"), ("door", "none"), ("swallow",), ("answer",), ("skip",), ("fail",)]
        self.assertEqual(self.told(host, acts, acts, acts), self.told(host))
        self.assertEqual(self.told(host, [("inner",)], [("inner",), ("inner",)])[2:4], [("inner", "well"), ("visited", "h", "behind")])
        host = bit_host([Fire("h")], [("h", "ahead", "answer", "")])
        self.assertEqual(self.told(host, [("answer",), ("look",)]), [("visited", "h", "ahead"), ("ended", "well", (0,))])
        host = bit_host([Fire("h")], [("h", "around", "fail", "")])
        self.assertEqual(
            self.told(host, [], [("inner",), ("fail",), ("look",)]),
            [*self.visits("ahead", "around"), ("inner", "well"), ("ended", "failed", (0,))],
        )

    def test_lends_show_nothing_by_themselves(self):
        host = with_all(bit_host([Fire("h"), Put("a", 0)]))
        self.assertEqual(self.told(host, [("lend", "a", 1)]), self.told(host))

    def test_against_the_model(self):
        kinds = set()
        for seed in range(200):
            random_one, host = random.Random(seed), random_host(seed)
            for steps in [False, True]:
                calls = [random_one.choice(host.open_deeds()) for _ in range(random_one.randint(0, 3))]
                play = Play(calls, random_script(random_one, host))
                found = sightings(host, play, steps)
                self.assertEqual(found, sightings_by_model(host, play, steps))
                kinds |= {item[0] for item in found}
        self.assertEqual(kinds, {"visited", "looked", "door", "inner", "ended", "did"})

    def test_errors(self):
        host = bit_host([], further=[("low", [])])
        for value in [None, BIT, *odd_values()]:
            with self.assertRaises(InvalidHost) as caught:
                sightings(value, None)
            self.assertIs(caught.exception.value, value)
        for value in [Play(["low"], Script()), Play(["none"], Script()), Script(), ["run"], None, *odd_values()]:
            with self.assertRaises(InvalidPlay) as caught:
                sightings(host, value)
            self.assertIs(caught.exception.value, value)


class TestCanCompare(unittest.TestCase):
    def test_what_may_differ(self):
        host = pay_host()
        self.assertIs(can_compare(host, pay_host()), True)
        self.assertIs(can_compare(host, host.from_state((1, 1))), True)
        self.assertIs(can_compare(host, pay_host(core=[Fail()])), True)
        powers = host.powers()
        self.assertIs(can_compare(host, Host(host.boxes, (0, 0), [("pay", [Do("one")])], {"check": []}, ["pay"], powers)), True)
        deeds = [("one", []), ("two", [])]
        one = Host(BIT, (0,), deeds, {}, ["one", "two"], [])
        other = Host(Boxes({"a": 2}), (0,), deeds[::-1], {}, ["one", "two"], [])
        self.assertEqual([one.open_deeds(), other.open_deeds()], [["one", "two"], ["two", "one"]])
        self.assertIs(can_compare(one=one, other=other), True)
        self.assertIs(are_alike(one, other), True)

    def test_what_may_not_differ(self):
        deeds = [("one", []), ("two", [])]
        one = Host(BIT, (0,), deeds, {"h": []}, ["one"], [("h", "ahead", "fail", "")])
        others = [
            Host(Boxes({"a": 3}), (0,), deeds, {"h": []}, ["one"], one.powers()),
            Host(Boxes({"b": 2}), (0,), deeds, {"h": []}, ["one"], one.powers()),
            Host(Boxes({"a": 2, "b": 2}), (0, 0), deeds, {"h": []}, ["one"], one.powers()),
            Host(BIT, (0,), deeds[:1], {"h": []}, ["one"], one.powers()),
            Host(BIT, (0,), [*deeds, ("three", [])], {"h": []}, ["one"], one.powers()),
            Host(BIT, (0,), [("one", []), ("too", [])], {"h": []}, ["one"], one.powers()),
            Host(BIT, (0,), deeds, {"h": [], "g": []}, ["one"], one.powers()),
            Host(BIT, (0,), deeds, {"h": []}, ["two"], one.powers()),
            Host(BIT, (0,), deeds, {"h": []}, ["one", "two"], one.powers()),
            Host(BIT, (0,), deeds, {"h": []}, [], one.powers()), one - one.powers(), one + [("h", "behind", "fail", "")],
        ]
        for other in others:
            for pair in [(one, other), (other, one)]:
                self.assertIs(can_compare(*pair), False)
                for call in [are_alike, parting_play]:
                    for steps in [False, True]:
                        with self.assertRaises(OtherHosts) as caught:
                            call(*pair, steps)
                        self.assertIs(caught.exception.one, pair[0])
                        self.assertIs(caught.exception.other, pair[1])

    def test_invalid_hosts(self):
        host = bit_host([])
        for value in [None, BIT, *odd_values()]:
            for call in [can_compare, are_alike, parting_play]:
                for pair in [(value, host), (host, value), (value, None)]:
                    with self.assertRaises(InvalidHost) as caught:
                        call(*pair)
                    self.assertIs(caught.exception.value, value)


class Parting:
    """What is asked of hosts that are alike or not."""

    def assert_alike(self, one, other, steps=False):
        for pair in [(one, other), (other, one)]:
            self.assertIs(are_alike(*pair, steps), True)
            self.assertIsNone(parting_play(*pair, steps))

    def assert_parted(self, cost, one, other, steps=False):
        for pair in [(one, other), (other, one)]:
            self.assertIs(are_alike(*pair, steps), False)
            play = parting_play(*pair, steps)
            self.assertIsInstance(play, Play)
            self.assertNotEqual(sightings(one, play, steps), sightings(other, play, steps))
            self.assertEqual(play.cost, cost)
            self.assertEqual(parting_play(*pair, steps), play)

    def assert_no_play_parts(self, most, one, other, steps=False):
        """No play that costs at most so much shows something else at both hosts."""
        for tried in each_play([one, other], most):
            self.assertEqual(sightings(one, tried, steps), sightings(other, tried, steps))


class TestAlike(Parting, unittest.TestCase):
    def test_a_host_and_itself(self):
        for host in [pay_host(), nested_host(), bit_host([]), *[random_host(seed) for seed in range(60)]]:
            self.assert_alike(host, host)
            self.assert_alike(host, host + [], steps=True)

    def test_ends_of_calls(self):
        self.assert_parted(1, bit_host([]), bit_host([Fail()]))
        self.assert_parted(1, bit_host([]), bit_host([Put("a", 1)]))
        self.assert_alike(bit_host([Put("a", 1)]), bit_host([Put("a", 0), If("a", 0, [Put("a", 1)])]))
        # The difference comes at the second call alone.
        self.assert_parted(2, bit_host([If("a", 1, [Fail()]), Put("a", 1)]), bit_host([Put("a", 1)]))

    def test_visits(self):
        self.assert_parted(1, bit_host([]), bit_host([Fire("h")]))
        self.assert_parted(1, bit_host([Fire("h")]), bit_host([Fire("h"), Fire("h")]))
        two = [Host(BIT, (0,), [("run", [Fire(hook)])], {"h": [], "g": []}, ["run"], []) for hook in ["h", "g"]]
        self.assert_parted(1, *two)

    def test_states_at_visits(self):
        one, other = bit_host([Fire("h"), Put("a", 0)]), bit_host([Put("a", 1), Fire("h"), Put("a", 0)])
        # A call and a look: nothing else shows it.
        self.assert_parted(2, one, other)
        self.assert_parted(2, bit_host([Fire("h"), Put("a", 0)]), bit_host([Fire("h"), Put("a", 0)], core=[Put("a", 1)]))

    def test_steps_alone(self):
        one, other = bit_host([Do("one"), Do("two")]), bit_host([Do("two"), Do("one")])
        self.assert_alike(one, other)
        self.assert_parted(1, one, other, steps=True)
        self.assert_parted(1, one, bit_host([Do("one")]), steps=True)
        cores = [bit_host([Fire("h")], core=[Do(step)]) for step in ["one", "two"]]
        self.assert_alike(*cores)
        self.assert_parted(1, *cores, steps=True)
        self.assert_parted(1, bit_host([Do("one"), Fire("h")]), bit_host([Fire("h"), Do("one")]), steps=True)
        self.assert_parted(1, bit_host([Fire("h"), Do("one")], core=[]), bit_host([Fire("h")], core=[Do("one")]), steps=True)

    def test_the_first_state_alone(self):
        body = [Put("a", 0), Fire("h")]
        self.assert_alike(bit_host(body), bit_host(body, first=(1,)))
        self.assert_parted(1, bit_host([]), bit_host([], first=(1,)))
        self.assert_parted(2, bit_host([Fire("h"), Put("a", 0)]), bit_host([Fire("h"), Put("a", 0)], first=(1,)))
        # Without open deeds nothing is shown.
        self.assert_alike(bit_host([], open_deeds=[]), bit_host([Fail()], first=(1,), open_deeds=[]), steps=True)

    def test_the_sequence_of_deeds_and_calls_in_their_place(self):
        low = ("low", [Put("a", 1), Fail()])
        one = bit_host([Guard([Call("low")])], further=[low])
        other = Host(BIT, (0,), [("run", [Guard([Put("a", 1), Fail()])]), low], {"h": []}, ["run"], [])
        self.assert_alike(one, other, steps=True)
        # A call within a call, which fires, and whose end comes while the other host goes on.
        fires = ("low", [Fire("h"), Put("a", 1)])
        one = with_all(bit_host([Call("low"), Fire("h"), Fail()], further=[fires]))
        other = with_all(bit_host([Fire("h"), Put("a", 1), Guard([Fire("h")], [Fail()]), Fail()], further=[fires]))
        self.assert_alike(one, other, steps=True)
        other = with_all(bit_host([Fire("h"), Put("a", 1), Guard([Fire("h")])], further=[fires]))
        self.assert_parted(1, one, other)

    def test_cores(self):
        self.assert_parted(1, bit_host([Fire("h")]), bit_host([Fire("h")], core=[Fail()]))
        fails = [Guard([Fire("h")])]
        # Whether the core failed shows at once, by the visit behind it, although the call ends the same way.
        self.assert_parted(1, bit_host(fails), bit_host(fails, core=[Fail()]))
        # What a core does by itself is not shown.
        self.assert_alike(bit_host([Fire("h")], core=[Guard([Put("a", 1), Put("a", 0), Fail()])]), bit_host([Fire("h")]))
        again = [("h", "around", "again", "")]
        flip = [If("a", 0, [Put("a", 1)], [Put("a", 0)])]
        body = [Put("a", 0), Fire("h")]
        one, other = bit_host(body, again, flip), bit_host(body, again, [Put("a", 1)])
        # A call, and two acts that let the core come; without a 0 ahead of it two calls would do.
        self.assert_parted(3, one, other)
        self.assert_alike(one - again, other - again)
        self.assert_parted(2, bit_host([Fire("h")], core=flip), bit_host([Fire("h")], core=[Put("a", 1)]))

    def test_only_behind_a_power_that_is_not_let(self):
        bodies = [[Put("a", 0), Fire("h"), If("a", 1, [Do("never"), Fail()]), Put("a", 0)], [Put("a", 0), Fire("h"), Put("a", 0)]]
        for rank in RANKS:
            lend = [("h", rank, "lend", "a")]
            one, other = [bit_host(body, lend) for body in bodies]
            self.assert_parted(2, one, other)
            self.assert_alike(one - lend, other - lend, steps=True)
        further = [[("low", [])], [("low", [Fail()])]]
        one, other = [bit_host([Fire("h")], further=rows) for rows in further]
        self.assert_alike(one, other, steps=True)
        for rank in RANKS:
            door = [("h", rank, "door", "low")]
            self.assert_parted(2, one + door, other + door)

    def test_only_in_runs_within_runs(self):
        # Only in a run through a door is a 1 at the begin; the run around it puts a to 0 again.
        rest = [Put("a", 1), Fire("h"), Put("a", 0)]
        one = bit_host([If("a", 1, [Put("a", 0)], rest)], [("h", "around", "door", "run")])
        other = bit_host([If("a", 1, [], rest)], [("h", "around", "door", "run")])
        # A call, the door, and the look behind it.
        self.assert_parted(3, one, other)
        self.assert_alike(one - one.powers(), other - other.powers(), steps=True)
        # Here the run around ends in the state that the run within left: no look is needed.
        rest = [Put("a", 1), Fire("h")]
        one, other = [bit_host([If("a", 1, body, rest)], [("h", "behind", "door", "run")]) for body in [[Put("a", 0)], []]]
        self.assert_parted(2, one, other)

    def test_random_pairs(self):
        found = {True: 0, False: 0}
        for random_one, one, other in pairs(range(400)):
            for steps in [False, True]:
                play = parting_play(one, other, steps)
                found[play is None] += 1
                self.assertEqual(are_alike(one, other, steps), play is None)
                graph = PairGraph(Plan(one), Plan(other), steps)
                # What the search reckons is what the play costs.
                cost = Search(graph).least_cost(graph.start_of_plays(), WANTED)
                self.assertEqual(cost, None if play is None else play.cost)
                if play is not None:
                    self.assertNotEqual(sightings(one, play, steps), sightings(other, play, steps))
                for _ in range(4):
                    calls = [random_one.choice(one.open_deeds()) for _ in range(random_one.randint(0, 3))]
                    tried = Play(calls, random_script(random_one, one))
                    if sightings(one, tried, steps) != sightings(other, tried, steps):
                        self.assertIsNotNone(play)
                        self.assertLessEqual(play.cost, tried.cost)
        self.assertGreater(min(found.values()), 100)

    def test_no_cheaper_play_parts_them(self):
        costs = []
        for random_one, one, other in pairs(range(1000, 1120)):
            if len(one) > 8 or len(one.powers()) > 14 or len(one.deeds()) > 2:
                continue
            for steps in [False, True]:
                play = parting_play(one, other, steps)
                least = None
                for tried in each_play([one, other], 2):
                    if (least is None or tried.cost < least) and sightings(one, tried, steps) != sightings(other, tried, steps):
                        least = tried.cost
                cost = None if play is None else play.cost
                self.assertEqual(least, cost if cost is not None and cost < 3 else None)
                costs.append(least)
        self.assertEqual(set(costs), {None, 1, 2})
        self.assertGreater(len(costs), 20)

    def tiny_pairs(self, seeds):
        """Hosts of one hook and few powers that can be compared."""
        for seed in seeds:
            random_one = random.Random(seed)
            names = ["run", "low"][:random_one.randint(1, 2)]
            boxes = Boxes({"a": random_one.choice([2, 2, 3])})
            bodies = [random_body(random_one, boxes, names[:at], ["h"], 2, 3) for at in range(len(names))]
            core = random_body(random_one, boxes, [], [], 1, 2)
            if sum(row.many() for body in [core, *bodies] for row in body) > 15:
                continue
            host = Host(boxes, (0,), list(zip(names, bodies)), {"h": core}, names[:random_one.randint(1, 2)], [])
            host = host + random_one.sample(host.all_powers(), random_one.randint(1, 4))
            deeds, hooks, first = changed(host, random_one)
            try:
                yield random_one, host, Host(boxes, first, deeds, hooks, host.open_deeds(), host.powers())
            except (InvalidDeed, TooMany):
                continue

    def test_no_cheaper_play_parts_tiny_hosts(self):
        costs = {}
        for random_one, one, other in self.tiny_pairs(range(1500)):
            steps = random_one.random() < 0.3
            play = parting_play(one, other, steps)
            cost = None if play is None else play.cost
            # Most are alike, or parted by one call.
            if cost == 1 or (cost is None and random_one.random() < 0.9):
                continue
            least = None
            for tried in each_play([one, other], 3):
                if (least is None or tried.cost < least) and sightings(one, tried, steps) != sightings(other, tried, steps):
                    least = tried.cost
            self.assertEqual(least, cost if cost is not None and cost < 4 else None)
            costs[cost] = costs.get(cost, 0) + 1
        self.assertTrue({None, 2, 3} <= set(costs))

    def test_no_cheaper_play_with_three(self):
        rest = [Put("a", 1), Fire("h"), Put("a", 0)]
        flip = [If("a", 0, [Put("a", 1)], [Put("a", 0)])]
        couples = [
            ([bit_host([If("a", 1, body, rest)], [("h", "around", "door", "run")]) for body in [[Put("a", 0)], []]], 3),
            ([with_all(bit_host([Put("a", 0), Fire("h")], core=core), "lend", "door") for core in [flip, [Put("a", 1)]]], 3),
            ([with_all(bit_host([Put("a", 0), Fire("h"), Put("a", 0)], core=core), "lend") for core in [flip, [Put("a", 1)]]], 4),
        ]
        for (one, other), wanted in couples:
            self.assert_parted(wanted, one, other)
            self.assert_no_play_parts(wanted - 1, one, other)

    def test_random_bodies_that_are_split_by_nothing(self):
        # Each body stands within others that do the same.
        for seed in range(60):
            random_one, host = random.Random(seed), random_host(seed)
            deeds = [(deed, [Guard([*host.body(deed)], [Fail()])]) for deed in host.deeds()]
            hooks = {hook: [Last(host.core(hook), [Guard([Fail()])])] for hook in host.hooks()}
            if sum(row.many() for body in [*dict(deeds).values(), *hooks.values()] for row in body) > Host.MOST_STATEMENTS:
                continue
            other = Host(host.boxes, host.first, deeds, hooks, host.open_deeds(), host.powers())
            self.assert_alike(host, other, steps=random_one.random() < 0.5)

    def test_steps_by_name(self):
        one, other = bit_host([Do("one")]), bit_host([Do("two")])
        self.assertTrue(are_alike(one=one, other=other))
        self.assertFalse(are_alike(one, other, steps=True))
        self.assertIsNone(parting_play(one=one, other=other, steps=False))
        self.assertEqual(parting_play(one, other, steps=True), Play(["run"], Script()))
        self.assertEqual(len(random_body(random.Random(0), BIT, [], [], 0, 0)), 0)


def did(word):
    """A body that does a step for each letter."""
    return [Do(letter) for letter in word]


def firing_host(ahead, core, failed, well="", fails=True):
    """A host that does the steps ahead of a firing, in its core, and behind it, as this failed or ended well."""
    core = [*did(core), Fail()] if fails else did(core)
    return bit_host([*did(ahead), Guard([Fire("h"), *did(well)], did(failed))], core=core)


def with_step(random_one, bodies, step):
    """The bodies, with the step put in at some place in one of them, or in one within it."""
    bodies = list(bodies)
    at = random_one.randrange(len(bodies))
    body = list(bodies[at])
    holders = [place for place, row in enumerate(body) if row.bodies()]
    if holders and random_one.random() < 0.6:
        place = random_one.choice(holders)
        inner = with_step(random_one, body[place].bodies(), step)
        row = body[place]
        body[place] = If(row.box, row.value, *inner) if isinstance(row, If) else row.__class__(*inner)
    else:
        body.insert(random_one.randint(0, len(body)), Do(step))
    bodies[at] = body
    return bodies


class TestStepsThatMove(Parting, unittest.TestCase):
    """A step counts where it stands in the whole list, not where it stands in the list of a core or of a body."""

    def assert_parted_by_an_inner(self, one, other):
        """The call alone does not part the hosts, the call and an inner do."""
        play = Play(["run"], Script())
        self.assertEqual(sightings(one, play, True), sightings(other, play, True))
        play = Play(["run"], Script([], [("inner",)]))
        self.assertNotEqual(sightings(one, play, True), sightings(other, play, True))
        self.assert_alike(one, other)
        self.assert_parted(2, one, other, steps=True)
        self.assert_no_play_parts(1, one, other, steps=True)

    def test_from_the_end_of_a_core_that_fails_to_behind_the_firing(self):
        for word in ["w", "wv", "ww", "wvw"]:
            hosts = [firing_host("", word[:at], word[at:]) for at in range(len(word) + 1)]
            for one, other in itertools.combinations(hosts, 2):
                self.assert_parted_by_an_inner(one, other)
            for host in hosts:
                self.assert_alike(host, host, steps=True)

    def test_other_steps_in_the_core_and_behind_it(self):
        couples = [
            (("w", "v"), ("v", "w")), (("w", "v"), ("", "vw")), (("w", "v"), ("wv", "v")), (("w", ""), ("", "")),
            (("w", "w"), ("w", "")), (("w", "w"), ("ww", "w")), (("wv", ""), ("w", "w")), (("w", ""), ("", "ww")),
            (("v", "w"), ("w", "w")), (("", "w"), ("", "v")),
        ]
        for one, other in couples:
            self.assert_parted(1, firing_host("", *one), firing_host("", *other), steps=True)

    def test_from_ahead_of_a_firing_to_the_begin_of_its_core(self):
        # The visits ahead and around stand between them.
        for fails in [False, True]:
            for rest in ["", "w", "v"]:
                one, other = firing_host("w", rest, "", fails=fails), firing_host("", "w" + rest, "", fails=fails)
                self.assert_alike(one, other)
                self.assert_parted(1, one, other, steps=True)
        self.assert_parted(1, firing_host("w", "", ""), firing_host("", "", "w"), steps=True)

    def test_from_a_core_that_ends_well_to_behind_the_firing(self):
        # The visit behind stands between them.
        one, other = firing_host("", "w", "", fails=False), firing_host("", "", "", well="w", fails=False)
        self.assert_alike(one, other)
        self.assert_parted(1, one, other, steps=True)
        # The body behind is done in either way, but the core fails at one of the hosts alone.
        hosts = [bit_host([Guard([Last([Fire("h")], did(behind))])], core=core)
                 for behind, core in [("", did("w")), ("w", []), ("", [*did("w"), Fail()]), ("w", [Fail()])]]
        for one, other in itertools.combinations(hosts[:3], 2):
            self.assert_parted(1, one, other, steps=True)
        for host in hosts[:2]:
            self.assert_parted(1, host, hosts[3], steps=True)
        self.assert_parted_by_an_inner(*hosts[2:])

    def test_whatever_is_let(self):
        one, other = firing_host("", "w", ""), firing_host("", "", "w")
        for power in one.all_powers():
            self.assert_parted(2, one + [power], other + [power], steps=True)
        self.assert_parted(2, with_all(one), with_all(other), steps=True)

    def test_behind_calls(self):
        low = [("low", [Fire("h")])]
        one = bit_host([Guard([Call("low")], did("w"))], core=[Fail()], further=low)
        other = bit_host([Guard([Call("low")])], core=[*did("w"), Fail()], further=low)
        self.assert_parted_by_an_inner(one, other)
        # Here the run by Call does it: this is the same as if it is done behind the Call.
        low = [("low", [Guard([Fire("h")], [*did("w"), Fail()])])]
        third = bit_host([Guard([Call("low")])], core=[Fail()], further=low)
        self.assert_parted_by_an_inner(other, third)
        self.assert_alike(one, third, steps=True)

    def test_runs_that_fail(self):
        one = bit_host([Last([Fire("h")], did("w"))], core=[Fail()])
        other = bit_host([Fire("h")], core=[*did("w"), Fail()])
        self.assert_parted_by_an_inner(one, other)
        # What is shown behind the steps differs: the end of the call, or the next firing.
        other = bit_host([Guard([Fire("h")])], core=[*did("w"), Fail()])
        self.assert_parted(1, one, other, steps=True)
        other = bit_host([Guard([Fire("h")]), Fire("h")], core=[*did("w"), Fail()])
        self.assert_parted(1, one, other, steps=True)

    def test_firing_behind_firing(self):
        # The visit ahead at the second firing stands between the two.
        core = [*did("w"), Fail()]
        one = bit_host([Guard([Fire("h")], did("v")), Guard([Fire("h")])], core=core)
        other = bit_host([Guard([Fire("h")]), Guard([Fire("h")], did("v"))], core=core)
        self.assert_parted(1, one, other, steps=True)
        # At the first firing both do the same steps, ahead of the second one.
        one = bit_host([Put("a", 0), Guard([Fire("h")], did("wv")), Put("a", 1), Guard([Fire("h")])], core=[Fail()])
        core = [If("a", 0, did("w")), Fail()]
        other = bit_host([Put("a", 0), Guard([Fire("h")], did("v")), Put("a", 1), Guard([Fire("h")])], core=core)
        self.assert_parted_by_an_inner(one, other)

    def test_within_doors(self):
        hosts = []
        for behind, core in [("w", [Fail()]), ("", [*did("w"), Fail()])]:
            deeds = [("low", [Guard([Fire("h")], did(behind))]), ("run", [Fire("g")])]
            hosts.append(Host(BIT, (0,), deeds, {"g": [], "h": core}, ["run"], [("g", "behind", "door", "low")]))
        self.assert_alike(*hosts)
        # The call, the door, and an inner in the run through it.
        self.assert_parted(3, *hosts, steps=True)
        self.assert_no_play_parts(2, *hosts, steps=True)
        self.assert_alike(*[host - host.powers() for host in hosts], steps=True)

    def test_only_in_a_state_that_is_lent(self):
        lend = [("h", "ahead", "lend", "a")]
        ask = [If("a", 1, did("w"))]
        one = bit_host([Guard([Fire("h")], ask), Put("a", 0)], lend, core=[Fail()])
        other = bit_host([Guard([Fire("h")]), Put("a", 0)], lend, core=[*ask, Fail()])
        self.assert_parted(3, one, other, steps=True)
        self.assert_no_play_parts(2, one, other, steps=True)
        self.assert_alike(one - lend, other - lend, steps=True)

    def test_with_states_that_differ(self):
        # While the states differ, a look parts the hosts as well as an inner does.
        one = bit_host([Put("a", 1), Guard([Fire("h")], did("w")), Put("a", 0)], core=[Fail()])
        other = bit_host([Put("a", 0), Guard([Fire("h")]), Put("a", 0)], core=[*did("w"), Fail()])
        self.assert_parted(2, one, other)
        self.assert_parted(2, one, other, steps=True)
        one = bit_host([Guard([Fire("h")], [*did("w"), Put("a", 1)])], core=[Fail()])
        other = bit_host([Guard([Fire("h")])], core=[*did("w"), Put("a", 1), Fail()])
        self.assert_parted(2, one, other, steps=True)
        self.assert_no_play_parts(1, one, other, steps=True)

    def moved_pairs(self, seeds):
        """Hosts that differ in the place of a step alone, or of two steps."""
        for seed in seeds:
            random_one = random.Random(seed)
            names = ["low", "run"][random_one.randint(0, 1):]
            bodies = [random_body(random_one, BIT, names[:at], ["h"], 1, 3) for at in range(len(names))]
            bodies[-1].insert(0, Guard([Fire("h")], []))
            bodies.append(random_body(random_one, BIT, [], [], 1, 2) + [Fail()] * random_one.randint(0, 1))
            many = random_one.randint(0, 2)
            two = [bodies, bodies]
            for _ in range(random_one.randint(1, 2)):
                two = [with_step(random_one, told, "s1") for told in two]
            hosts = [Host(BIT, (0,), list(zip(names, told)), {"h": told[-1]}, ["run"], []) for told in two]
            powers = random_one.sample(hosts[0].all_powers(), many)
            yield [host + powers for host in hosts]

    def test_random_hosts_whose_steps_move(self):
        costs = {}
        for one, other in self.moved_pairs(range(1500)):
            play = parting_play(one, other, steps=True)
            cost = None if play is None else play.cost
            costs[cost] = costs.get(cost, 0) + 1
            self.assertEqual(are_alike(one, other, steps=True), play is None)
            if play is not None:
                self.assertNotEqual(sightings(one, play, True), sightings(other, play, True))
            self.assert_no_play_parts(2 if cost is None else min(cost - 1, 2), one, other, steps=True)
        self.assertTrue({None, 1, 2, 3} <= set(costs))
        self.assertGreater(costs[2], 20)
