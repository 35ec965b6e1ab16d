"""Promises [4], [41] to [43], [51], [61]: many hosts, compared with the plain rounds of tests/reckon.py."""

import random
import unittest

from hookvows.plays import breaking_cost, fewest_acts
from hookvows.records import record, sights
from tests.model import random_host
from tests.reckon import Reckoning
from tests.sample_hosts import nested_host
from tests.sample_vows import random_vows

SEEDS = range(60)


class TestReckoning(unittest.TestCase):
    def test_records_and_sights(self):
        for seed in SEEDS:
            host = random_host(seed)
            reckoning = Reckoning(host)
            self.assertEqual(record(host), reckoning.record())
            self.assertEqual(sights(host), reckoning.sights())

    def test_costs(self):
        for seed in SEEDS:
            random_one, host = random.Random(seed), random_host(seed)
            reckoning = Reckoning(host)
            for vow in random_vows(random_one, host) + random_vows(random_one, host):
                self.assertEqual(breaking_cost(host, vow), reckoning.breaking_cost(vow))
            deed = random_one.choice(host.deeds())
            for state in host.boxes.states():
                for end in host.boxes.states():
                    for way in ["well", "failed"]:
                        wanted = reckoning.ends[deed, state].get((way, end))
                        self.assertEqual(fewest_acts(host, deed, state, way, end), wanted)

    def test_a_host_with_all_kinds_of_statements(self):
        host = nested_host()
        reckoning = Reckoning(host)
        self.assertEqual(record(host), reckoning.record())
        self.assertEqual(sights(host), reckoning.sights())
        for seed in range(10):
            for vow in random_vows(random.Random(seed), host):
                self.assertEqual(breaking_cost(host, vow), reckoning.breaking_cost(vow))
