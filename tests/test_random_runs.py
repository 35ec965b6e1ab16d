"""Promises [4] and [31] to [36]: many runs, compared with those of the model in tests/model.py."""

import random
import unittest

from hookvows.hosts import RANKS
from hookvows.live import Driver, Live, as_one, play_all, run_parts, run_script
from hookvows.scripts import Play, Script
from tests.model import model_run, model_script, random_host, random_parts, random_script

SEEDS = range(250)


class TestRandomRuns(unittest.TestCase):
    def each(self):
        for seed in SEEDS:
            random_one = random.Random(seed)
            host = random_host(seed)
            yield host, random_one, random_one.choice(host.deeds()), random_one.choice(host.boxes.states())

    def test_scripts(self):
        kinds = set()
        for host, random_one, deed, state in self.each():
            for _ in range(4):
                script = random_script(random_one, host)
                run = run_script(host, deed, state, script)
                model = model_script(host, deed, state, script)
                self.assertEqual(run.trace(), model.trace)
                self.assertEqual([run.deed, run.begin, run.way, run.state], [deed, state, model.trace[-1][2], model.state()])
                kinds |= {item[0] for item in run.trace()}
        self.assertEqual(kinds, {"called", "did", "fired", "visited", "looked", "ended"})

    def test_several_parts_are_as_one(self):
        words = set()
        for host, random_one, deed, state in self.each():
            for _ in range(4):
                parts = random_parts(random_one, host)
                run = run_parts(host, deed, state, parts)
                model = model_run(host, deed, state, parts)
                self.assertEqual(run.trace(), model.trace)
                one = as_one(host, deed, state, parts)
                self.assertEqual(one.rows(), model.rows())
                self.assertEqual(run_script(host, deed, state, one).sequence(), run.sequence())
                words |= {act[0] for row in one.rows() for act in row}
        self.assertEqual(words, {"look", "lend", "door", "inner", "swallow", "answer", "skip", "fail"})

    def test_each_act_of_as_one_is_let(self):
        # Its acts are let again, so that the script of the run with it is the script itself.
        for host, random_one, deed, state in self.each():
            one = as_one(host, deed, state, random_parts(random_one, host))
            self.assertEqual(model_script(host, deed, state, one).rows(), one.rows())

    def test_a_driver_that_is_called_by_an_action_does_the_same(self):
        for host, random_one, deed, state in self.each():
            script = random_script(random_one, host)
            live = Live(host + [])
            live.state = state
            driver = Driver(script)
            for rank in RANKS:
                live.add(rank, lambda visit: driver(visit))
            if deed in host.open_deeds():
                self.assertEqual(live.call(deed).trace(), run_script(host, deed, state, script).trace())

    def test_plays(self):
        for host, random_one, _, _ in self.each():
            script = random_script(random_one, host)
            calls = [random_one.choice(host.open_deeds()) for _ in range(random_one.randint(0, 3))]
            rows = script.rows()
            runs = play_all(host, Play(calls, script))
            state = host.first
            self.assertEqual([run.deed for run in runs], calls)
            for run in runs:
                model = model_script(host, run.deed, state, Script(*rows))
                self.assertEqual(run.trace(), model.trace)
                taken = sum(item[0] == "visited" for item in model.trace)
                rows, state = rows[taken:], run.state
