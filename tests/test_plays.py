"""Promise [61] and the interface of hookvows/plays.py: least plays."""

import random
import unittest

from hookvows.boxes import Boxes
from hookvows.errors import InvalidHost, InvalidState, InvalidVow, InvalidWays, UnknownDeed
from hookvows.hosts import Host
from hookvows.live import play_all, run_script
from hookvows.plays import breaking_cost, breaking_play, fewest_acts, script_to
from hookvows.records import outcomes
from hookvows.scripts import Play, Script
from hookvows.sets import States
from hookvows.statements import Call, Do, Fail, Fire, Guard, If, Put
from hookvows.vows import Behind, Kept, Left, Once, Sure, Whole, breaks, is_kept
from tests.brute import each_play, each_script
from tests.model import random_host
from tests.sample_hosts import BIT, bit_host, pay_host
from tests.sample_vows import random_vows
from tests.samples import WRONG_NAMES, AlwaysEqual, no_strings, odd_values

ZERO = States(BIT, [(0,)])
ONE = States(BIT, [(1,)])
ALL = States.every(BIT)
NONE = States(BIT, [])


def all_bit_host(body, core=(), further=(), first=(0,), without=()):
    """Such a host with all powers, but those with these verbs."""
    host = bit_host(body, (), core, further, first)
    return host + [power for power in host.all_powers() if power[2] not in without]


def small_host(seed):
    """A small random host."""
    while True:
        host = random_host(seed)
        if len(host) <= 8 and len(host.boxes) <= 4 and len(host.deeds()) <= 2:
            return host
        seed += 1000


class TestFewestActs(unittest.TestCase):
    def costs(self, host, state=(0,)):
        return {
            (way, end[0]): fewest_acts(host, "run", state, way, end) for way in ["well", "failed"] for end in [(0,), (1,)]
        }

    def test_without_acts(self):
        host = bit_host([Put("a", 1)])
        self.assertEqual(self.costs(host), {("well", 0): None, ("well", 1): 0, ("failed", 0): None, ("failed", 1): None})
        self.assertEqual(script_to(host, "run", (0,), "well", (1,)), Script())
        self.assertIsNone(script_to(host, "run", (0,), "well", (0,)))

    def test_one_act_of_each_kind(self):
        fire = [Fire("h")]
        for rank in ["ahead", "around", "behind"]:
            host = bit_host(fire, [("h", rank, "lend", "a"), ("h", rank, "fail", "")])
            self.assertEqual(self.costs(host), {("well", 0): 0, ("well", 1): 1, ("failed", 0): 1, ("failed", 1): 2})
        put = [Put("a", 1)]
        for power in [("h", "ahead", "answer", ""), ("h", "around", "skip", "")]:
            found = self.costs(bit_host(fire, [power], put))
            self.assertEqual(found, {("well", 0): 1, ("well", 1): 0, ("failed", 0): None, ("failed", 1): None})
        host = bit_host(fire, [("h", "around", "swallow", "")], [Fail()])
        self.assertEqual(self.costs(host), {("well", 0): 1, ("well", 1): None, ("failed", 0): 0, ("failed", 1): None})

    def test_what_comes_within_without_an_act_costs_nothing(self):
        turn = [If("a", 0, [Put("a", 1)], [Put("a", 0)])]
        host = bit_host([Fire("h")], [("h", "around", "again", "")], turn)
        # To come twice takes two acts.
        self.assertEqual(self.costs(host), {("well", 0): 2, ("well", 1): 0, ("failed", 0): None, ("failed", 1): None})
        host = bit_host([Fire("h")], [("h", "around", "lend", "a")], [Put("a", 1)])
        # To lend behind the core takes an inner and the lend.
        self.assertEqual(self.costs(host)["well", 0], 2)
        host = bit_host([Fire("h")], [("h", "around", "lend", "a"), ("h", "behind", "lend", "a")], [Put("a", 1)])
        self.assertEqual(self.costs(host)["well", 0], 1)

    def test_to_come_again_and_to_swallow(self):
        core = [If("a", 0, [Put("a", 1)], [Put("a", 0), Fail()])]
        host = bit_host([Fire("h")], [("h", "around", "again", ""), ("h", "around", "swallow", "")], core)
        self.assertEqual(self.costs(host), {("well", 0): 2, ("well", 1): 0, ("failed", 0): 2, ("failed", 1): 3})
        self.assertEqual(script_to(host, "run", (0,), "well", (0,)).rows()[1][1], ("swallow",))

    def test_acts_within_doors_count(self):
        further = [("low", [Fire("h"), Put("a", 1)])]
        host = bit_host([Fire("h")], [("h", "ahead", "door", "low"), ("h", "behind", "fail", "")], further=further)
        self.assertEqual(self.costs(host), {("well", 0): 0, ("well", 1): 1, ("failed", 0): 1, ("failed", 1): 2})
        body = [Guard([Call("low"), Fail()])]
        host = bit_host(body, [("h", "behind", "fail", "")], further=further)
        self.assertEqual(self.costs(host), {("well", 0): 1, ("well", 1): 0, ("failed", 0): None, ("failed", 1): None})

    def test_any_deed_from_any_state(self):
        host = bit_host([], further=[("low", [If("a", 1, [Fail()])])])
        self.assertEqual(fewest_acts(host, "low", (1,), "failed", (1,)), 0)
        self.assertEqual(script_to(host=host, deed="low", state=(1,), way="failed", end=(1,)), Script())
        self.assertIsNone(fewest_acts(host=host, deed="low", state=(0,), way="failed", end=(0,)))

    def test_a_script_ends_so_and_has_this_cost(self):
        for seed in range(150):
            random_one, host = random.Random(seed), random_host(seed)
            deed, state = random_one.choice(host.deeds()), random_one.choice(host.boxes.states())
            found = outcomes(host, deed, state)
            for way in ["well", "failed"]:
                for end in host.boxes.states():
                    cost, script = fewest_acts(host, deed, state, way, end), script_to(host, deed, state, way, end)
                    self.assertEqual([cost is not None, script is not None], [(way, end) in found] * 2)
                    if script is not None:
                        self.assertIsInstance(script, Script)
                        self.assertEqual(script.cost, cost)
                        run = run_script(host, deed, state, script)
                        self.assertEqual((run.way, run.state), (way, end))
                        self.assertEqual(script_to(host, deed, state, way, end), script)

    def test_no_cheaper_script_does(self):
        for seed in range(25):
            host = small_host(seed)
            deed = host.deeds()[-1]
            least = {}
            for script in each_script(host, deed, host.first, 2):
                run = run_script(host, deed, host.first, script)
                key = run.way, run.state
                least[key] = min(least.get(key, script.cost), script.cost)
            for way in ["well", "failed"]:
                for end in host.boxes.states():
                    cost = fewest_acts(host, deed, host.first, way, end)
                    self.assertEqual(least.get((way, end)), cost if cost is not None and cost < 3 else None)

    def test_errors(self):
        host = bit_host([])
        for call in [fewest_acts, script_to]:
            for value in [None, BIT, *odd_values()]:
                self.assert_raised(InvalidHost, value, call, value, None, None, None, None)
            for value in ["low", *WRONG_NAMES, *no_strings()]:
                self.assert_raised(UnknownDeed, value, call, host, value, None, None, None)
            for value in [(2,), (False,), 0, [0], None, AlwaysEqual()]:
                self.assert_raised(InvalidState, value, call, host, "run", value, None, None)
                self.assert_raised(InvalidState, value, call, host, "run", (0,), "well", value)
            for value in ["good", "Well", "", None, ("well",), ["well"], True, AlwaysEqual(), *odd_values()]:
                self.assert_raised(InvalidWays, value, call, host, "run", (0,), value, None)

    def assert_raised(self, error, value, call, *told):
        with self.assertRaises(error) as caught:
            call(*told)
        self.assertIs(caught.exception.value, value)


class TestBreaking(unittest.TestCase):
    def assert_cost(self, host, vow, cost):
        self.assertEqual(breaking_cost(host, vow), cost)
        self.assertIs(is_kept(host, vow), cost is None)
        play = breaking_play(host, vow)
        if cost is None:
            self.assertIsNone(play)
            return
        self.assertIsInstance(play, Play)
        self.assertEqual(play.cost, cost)
        self.assertIs(breaks(host, play, vow), True)
        self.assertEqual(breaking_play(host, vow), play)
        # No row behind the moment at which the vow is broken has an act.
        rows = play.script.rows()
        self.assertTrue(len(rows) == 0 or len(rows[-1]) > 0)

    def test_the_overview(self):
        busy = States.where(pay_host().boxes, "busy", 1)
        # A call, the door, and the look.
        self.assert_cost(pay_host(), Whole("check", busy), 3)
        self.assert_cost(pay_host(()), Whole("check", busy), None)
        self.assert_cost(pay_host([("check", "around", "again", "")], [Do("test")]), Once("pay", "test"), 3)

    def test_no_act_at_all(self):
        self.assert_cost(bit_host([Put("a", 1)]), Kept(ONE), 0)
        self.assert_cost(bit_host([Put("a", 1)], open_deeds=[]), Kept(NONE), 0)
        self.assert_cost(bit_host([Put("a", 1)]), Kept(ZERO), 1)
        self.assert_cost(bit_host([]), Sure("run", "one"), 1)
        self.assert_cost(bit_host([Do("one")]), Behind("run", "one", "one"), 1)
        self.assertEqual(breaking_play(bit_host([]), Kept(ONE)), Play([], Script()))
        self.assertEqual(breaking_play(bit_host([]), Sure("run", "one")), Play(["run"], Script()))

    def test_calls_count_with_the_acts(self):
        count = [If("b", 0, [Put("b", 1)], [If("b", 1, [Put("b", 2)], [Put("b", 3)])])]
        boxes = Boxes({"b": 4})
        host = Host(boxes, (0,), [("run", count)], {}, ["run"], [])
        for value in range(4):
            self.assert_cost(host, Kept(States(boxes, [state for state in boxes.states() if state != (value,)])), value)
        self.assert_cost(host, Left("run", States(boxes, [(2,)]), States(boxes, [])), 3)
        host = Host(boxes, (0,), [("run", [*count, Fire("h")])], {"h": []}, ["run"], [("h", "behind", "lend", "b")])
        # A lend takes the place of calls.
        self.assert_cost(host, Kept(States(boxes, [(0,), (1,), (2,)])), 2)

    def test_entries_through_doors_and_by_call(self):
        further = [("low", [Do("one"), Do("one")])]
        self.assert_cost(bit_host([Call("low")], further=further), Once("low", "one"), 1)
        host = bit_host([Fire("h")], [("h", "around", "door", "low")], further=further)
        self.assert_cost(host, Once("low", "one"), 2)
        host = bit_host([If("a", 1, [Fire("h")], [Put("a", 1)])], [("h", "around", "door", "low")], further=further)
        self.assert_cost(host, Once("low", "one"), 3)
        self.assert_cost(bit_host([], further=further), Once("low", "one"), None)

    def test_what_comes_behind_the_breach_costs_nothing(self):
        # Behind the second step the run could only end well by acts, but it need not end well.
        host = bit_host([Do("one"), Do("one"), Fire("h"), Put("a", 1)], core=[Fail()])
        self.assert_cost(host, Once("run", "one"), 1)
        self.assert_cost(host + [("h", "around", "swallow", "")], Once("run", "one"), 1)
        host = bit_host([Fire("h"), Fail()], [("h", "ahead", "door", "low")], further=[("low", [])])
        self.assert_cost(host, Sure("low", "one", "well"), 2)

    def test_the_script_ends_at_the_moment_of_the_breach(self):
        body = [Fire("h"), Fire("h"), Fire("h")]
        host = bit_host(body, [("h", "behind", "lend", "a")])
        self.assert_cost(host, Whole("h", ZERO), 3)
        play = breaking_play(host, Whole("h", ZERO))
        self.assertLessEqual(len(play.script), 9)
        self.assertEqual(play.script.rows()[-1][-1], ("look",))
        host = bit_host([Do("one"), Fire("h"), Do("two"), Fire("h")], [("h", "around", "again", "")], [Do("one")])
        # The core comes twice without an act of its own: once at each firing.
        self.assert_cost(host, Once("run", "one"), 1)
        self.assertEqual(breaking_play(host, Once("run", "one")), Play(["run"], Script()))

    def test_failures_that_only_parts_bring(self):
        host = bit_host([Fire("h"), Do("one")], [("h", "ahead", "fail", ""), ("h", "behind", "fail", "")])
        self.assert_cost(host, Sure("run", "one"), 2)
        self.assert_cost(host, Sure("run", "one", "failed"), 2)
        self.assert_cost(host, Sure("run", "one", "well"), None)
        self.assert_cost(host, Left("run", ALL, NONE, "failed"), 2)
        self.assert_cost(host, Left("run", ALL, NONE), 1)
        self.assert_cost(host, Left("run", ONE, NONE), None)

    def test_doors_within_doors(self):
        # Each run leaves a as it is, unless it runs within a run: only there is b 1.
        boxes = Boxes({"a": 2, "b": 3})
        body = [If("b", 2, [Put("a", 1)], [If("b", 1, [Put("b", 2), Fire("h")], [Put("b", 1), Fire("h")])]), Put("b", 0)]
        host = Host(boxes, (0, 0), [("run", body)], {"h": []}, ["run"], [("h", "behind", "door", "run")])
        self.assert_cost(host, Kept(States.where(boxes, "a", 0)), 3)
        self.assertEqual(breaking_play(host, Kept(States.where(boxes, "a", 0))).calls(), ["run"])

    def test_plays_of_all_kinds_of_vows(self):
        kinds = set()
        for seed in range(250):
            random_one, host = random.Random(seed), random_host(seed)
            for vow in random_vows(random_one, host):
                cost = breaking_cost(host, vow)
                self.assert_cost(host, vow, cost)
                kinds.add((type(vow), cost is None))
        self.assertEqual(kinds, {(kind, told) for kind in [Sure, Once, Behind, Whole, Left, Kept] for told in [True, False]})

    def test_no_cheaper_play_does(self):
        costs = set()
        for seed in range(30):
            random_one, host = random.Random(seed), small_host(seed)
            vows = random_vows(random_one, host)
            least = [None for _ in vows]
            for play in each_play([host], 2):
                for at, vow in enumerate(vows):
                    if (least[at] is None or play.cost < least[at]) and breaks(host, play, vow):
                        least[at] = play.cost
            for vow, told in zip(vows, least):
                cost = breaking_cost(host, vow)
                self.assertEqual(told, cost if cost is not None and cost < 3 else None)
                costs.add(told)
        self.assertEqual(costs, {None, 0, 1, 2})

    def test_no_cheaper_play_with_three(self):
        bodies = [
            ([Fire("h")], [If("a", 0, [Put("a", 1), Fail()], [Do("one")])]),
            ([Do("one"), Guard([Fire("h")], [Do("two"), Put("a", 1)])], [Fail()]),
            ([If("a", 0, [Fire("h")], [Do("two")]), Do("one")], [Put("a", 1)]),
        ]
        for body, core in bodies:
            host = all_bit_host(body, core, without=("fail",))
            vows = [Once("run", "one"), Behind("run", "one", "two"), Sure("run", "two", "well"), Left("run", ZERO, ZERO, "failed"),
                    Left("run", ONE, ZERO), Whole("h", ZERO), Once("run", "two"), Sure("run", "one", "well")]
            least = [4 for _ in vows]
            for play in each_play([host], 3):
                for at, vow in enumerate(vows):
                    if play.cost < least[at] and breaks(host, play, vow):
                        least[at] = play.cost
            for vow, told in zip(vows, least):
                cost = breaking_cost(host, vow)
                self.assertEqual(told, 4 if cost is None else min(cost, 4))

    def test_the_play_is_played_by_the_live_host(self):
        host = pay_host()
        vow = Whole("check", States.where(host.boxes, "busy", 1))
        looks = [look for run in play_all(host, breaking_play(host=host, vow=vow)) for look in run.looks()]
        self.assertEqual([look[3] for look in looks], [(0, 1)])
        self.assertEqual(breaking_cost(host=host, vow=vow), 3)

    def test_errors(self):
        host = bit_host([])
        for call in [breaking_cost, breaking_play]:
            for value in [None, BIT, *odd_values()]:
                with self.assertRaises(InvalidHost) as caught:
                    call(value, None)
                self.assertIs(caught.exception.value, value)
            for value in [None, "run", AlwaysEqual(), Sure("low", "one"), Kept(States(Boxes({"b": 2}), [])), *odd_values()]:
                with self.assertRaises(InvalidVow) as caught:
                    call(host, value)
                self.assertIs(caught.exception.value, value)
