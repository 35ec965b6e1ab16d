"""Hosts at the limits that the document names come to an end, and small ones are answered soon."""

import random
import time
import unittest

from hookvows.alike import are_alike, parting_play, sightings
from hookvows.boxes import Boxes
from hookvows.hosts import Host
from hookvows.live import run_script
from hookvows.plays import breaking_cost, breaking_play, fewest_acts, script_to
from hookvows.records import is_record, record, sights
from hookvows.seals import keeps, least_breaks, least_seals
from hookvows.sets import States
from hookvows.statements import Call, Do, Fail, Fire, Guard, If, Last, Put
from hookvows.vows import Behind, Kept, Left, Once, Sure, Whole, breaks, is_kept, shows
from tests.model import random_body, random_host
from tests.sample_vows import random_vows

DEEDS = ["d1", "d2", "d3", "d4", "d5"]
HOOKS = ["h1", "h2", "h3", "h4"]


def large_host(seed):
    """A host with 16 states, five deeds, four hooks, 36 to 40 statements and all powers."""
    random_one = random.Random(seed)
    boxes = Boxes([{"a": 2, "b": 2, "c": 2, "e": 2}, {"a": 4, "b": 4}, {"a": 4, "b": 2, "c": 2}][seed % 3])
    while True:
        deeds = [(deed, random_body(random_one, boxes, DEEDS[:at], HOOKS, 3, 4)) for at, deed in enumerate(DEEDS)]
        hooks = {hook: random_body(random_one, boxes, [], [], 2, 2) for hook in HOOKS}
        bodies = [*dict(deeds).values(), *hooks.values()]
        if 36 <= sum(statement.many() for body in bodies for statement in body) <= 40:
            host = Host(boxes, boxes.states()[0], deeds, hooks, DEEDS, [])
            return host + host.all_powers()


def nested_host():
    """A deed with statements eight deep, most in the second body of the one around it; 39 statements."""
    boxes = Boxes({"a": 4, "b": 4})
    deep = [Fire("h"), If("a", 3, [Put("b", 1)], [Do("s1")]), Put("a", 1), Fail()] * 4 + [Do("s2")] * 3
    for at in range(6):
        deep = [Last([Fire("h")], deep)] if at % 2 else [Guard([Fail()], deep)]
    host = Host(boxes, (0, 0), [("run", deep)], {"h": []}, ["run"], [])
    return host + host.all_powers()


class TestLargeHosts(unittest.TestCase):
    def hosts(self):
        return [large_host(0), large_host(1), large_host(2), nested_host()]

    def test_they_are_as_large_as_they_may_be(self):
        for host in self.hosts():
            self.assertEqual(len(host.boxes), 16)
            self.assertEqual(host.powers(), host.all_powers())
            self.assertGreaterEqual(len(host), 36)
        self.assertEqual(len(nested_host()), 39)

    def test_records(self):
        for host in self.hosts():
            told = record(host)
            self.assertTrue(is_record(host, told))
            self.assertEqual(len(told[0]), 16 * len(host.deeds()))
            self.assertEqual(len(sights(host)), 3 * len(host.hooks()))

    def test_vows(self):
        for seed, host in enumerate(self.hosts()):
            told = record(host)
            for vow in random_vows(random.Random(seed), host):
                cost, play = breaking_cost(host, vow), breaking_play(host, vow)
                self.assertEqual([cost is None, play is None], [is_kept(host, vow)] * 2)
                self.assertEqual(shows(host, told, vow), cost is None)
                if play is not None:
                    self.assertEqual(play.cost, cost)
                    self.assertTrue(breaks(host, play, vow))

    def test_scripts(self):
        for host in self.hosts():
            deed, state = host.deeds()[-1], host.first
            for way, end in record(host)[0][deed, state][::5]:
                script = script_to(host, deed, state, way, end)
                run = run_script(host, deed, state, script)
                self.assertEqual((run.way, run.state, script.cost), (way, end, fewest_acts(host, deed, state, way, end)))

    def test_seals(self):
        for host in self.hosts():
            states = record(host - host.powers())[2]
            vows = [Kept(States(host.boxes, states)), Whole(host.hooks()[0], States.every(host.boxes))]
            powers = host.powers()[::len(host.powers()) // 8 + 1]
            closed = host - [power for power in host.powers() if power not in powers]
            for sealed in least_seals(closed, vows, powers):
                self.assertTrue(keeps(closed, vows, sealed))
            least_breaks(closed, vows, powers)

    def test_alike(self):
        for host in self.hosts():
            self.assertTrue(are_alike(host, host, steps=True))
            deeds = [(deed, [*host.body(deed)]) for deed in host.deeds()]
            deeds[-1][1].append(Guard([Put("a", 1)]) if len(host) < 39 else Fail())
            if len(host) > 38:
                continue
            other = Host(host.boxes, host.first, deeds, {hook: host.core(hook) for hook in host.hooks()}, host.open_deeds(), host.powers())
            play = parting_play(host, other)
            self.assertEqual(play is None, are_alike(host, other))
            if play is not None:
                self.assertNotEqual(sightings(host, play), sightings(other, play))

    def test_calls_of_calls(self):
        boxes = Boxes({"a": 2, "b": 2, "c": 2, "e": 2})
        deeds = [("d1", [Fire("h1"), Put("a", 1)])]
        deeds += [(deed, [Guard([Call(DEEDS[at])], [Call(DEEDS[at])])] * 3) for at, deed in enumerate(DEEDS[1:])]
        hooks = {hook: [Fail()] for hook in HOOKS}
        host = Host(boxes, boxes.states()[0], deeds[:4], hooks, DEEDS[:4], [])
        host = host + [power for power in host.all_powers() if power[0] == "h1"]
        self.assertTrue(are_alike(host, host))
        for vow in [Sure("d4", "one"), Once("d1", "one"), Behind("d1", "one", "two"),
                    Left("d4", States.every(boxes), States(boxes, []), "failed")]:
            cost = breaking_cost(host, vow)
            self.assertEqual(cost is None, is_kept(host, vow))


class TestManySmallHosts(unittest.TestCase):
    def test_some_milliseconds_each(self):
        hosts = [random_host(seed) for seed in range(100)]
        hosts = [host + host.all_powers() for host in hosts]
        vows = [random_vows(random.Random(seed), host) for seed, host in enumerate(hosts)]
        begin = time.process_time()
        for host, told in zip(hosts, vows):
            record(host)
            for vow in told:
                breaking_cost(host, vow)
            are_alike(host, host)
        # There is much room in this: what is to be told is a reckoning that takes seconds for some small host.
        self.assertLess(time.process_time() - begin, 60)
