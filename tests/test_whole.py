"""Promises [1] and [4]: the overview, and what the parts of the program say of the same host."""

import random
import unittest

from hookvows.alike import are_alike, parting_play, sightings
from hookvows.boxes import Boxes
from hookvows.desk import Desk, tried
from hookvows.hosts import RANKS, Host
from hookvows.judge import certificate_of, is_certificate
from hookvows.live import Live, as_one, call_with, play_all, run_parts, run_script
from hookvows.plays import breaking_cost, breaking_play, fewest_acts, script_to
from hookvows.records import is_record, outcomes, record, sights
from hookvows.scripts import Play, Script
from hookvows.seals import keeps, least_seals, needed_seals
from hookvows.sets import States
from hookvows.statements import Do, Fire, Put
from hookvows.texts import host_text, read_host
from hookvows.vows import Behind, Kept, Left, Once, Sure, Whole, breaks, is_kept, shows
from tests.model import random_host, random_parts
from tests.sample_vows import random_vows

TEXT = """box busy 2
box paid 2
first busy=0 paid=0
hook check
open pay
  put busy 1
  fire check
  do charge
  put paid 1
  put busy 0
power check ahead door pay
"""


class TestOverview(unittest.TestCase):
    def setUp(self):
        self.host = read_host(TEXT)
        boxes = self.host.boxes
        self.door = ("check", "ahead", "door", "pay")
        self.busy = Whole("check", States.where(boxes, "busy", 1))
        self.half = States.where(boxes, "busy", 0) & States.where(boxes, "paid", 1)

    def test_a_part_that_calls_pay_once(self):
        seen = []

        def part(visit):
            if not seen:
                seen.append(None)
                visit.door("pay")
                seen[0] = visit.look()

        runs = call_with(Live(self.host), "ahead", part, "pay")
        self.assertEqual(seen, [(0, 1)])
        self.assertIn(seen[0], self.half)
        # The outer run has not charged yet when the part looks.
        trace = runs[0].trace()
        look = trace.index(("looked", "check", "ahead", (0, 1)))
        self.assertEqual([trace[:look].count(("did", "charge")), trace[look:].count(("did", "charge"))], [1, 1])
        self.assertIn((0, 1), sights(self.host)["check", "ahead"])
        self.assertEqual(breaking_cost(self.host, self.busy), 3)

    def test_this_power_is_taken_away(self):
        vows = [self.busy, Sure("pay", "charge", "well"), Once("pay", "charge")]
        self.assertFalse(keeps(self.host, vows, []))
        self.assertTrue(keeps(self.host, vows, [self.door]))
        self.assertEqual(least_seals(self.host, vows, self.host.powers()), [[self.door]])
        self.assertEqual(sights(self.host - [self.door])["check", "ahead"], [(1, 0), (1, 1)])
        # Without doors pay is never seen at work between calls, and it leaves busy at 0.
        self.assertTrue(is_kept(self.host - [self.door], Kept(States.where(self.host.boxes, "busy", 0))))

    def test_a_part_around_that_tries_again(self):
        body = [Fire("send"), Do("note")]
        again = ("send", "around", "again", "")
        host = Host(Boxes({"sent": 2}), (0,), [("mail", body)], {"send": [Do("post"), Put("sent", 1)]}, ["mail"], [again])
        self.assertEqual(breaking_cost(host, Once("mail", "post")), 3)
        runs = play_all(host, breaking_play(host, Once("mail", "post")))
        self.assertEqual(runs[0].doings().count(("did", "post")), 2)
        self.assertTrue(is_kept(host, Once("mail", "note")))
        self.assertTrue(is_kept(host - [again], Once("mail", "post")))


class TestOneHost(unittest.TestCase):
    """A host from its text: what one part of the program says of it the others say, too."""

    def hosts(self, seeds):
        for seed in seeds:
            yield random.Random(seed), read_host(host_text(random_host(seed)))

    def test_kept_or_broken(self):
        for random_one, host in self.hosts(range(120)):
            least = record(host)
            desk = Desk(host)
            for at, vow in enumerate(random_vows(random_one, host)):
                desk["v" + str(at)] = vow
                kept, play, cost = is_kept(host, vow), breaking_play(host, vow), breaking_cost(host, vow)
                self.assertEqual([play is None, cost is None, shows(host, least, vow)], [kept] * 3)
                self.assertEqual([keeps(host, [vow], []), least_seals(host, [vow], []) == [[]]], [kept] * 2)
                self.assertEqual(certificate_of(("kept", host, vow)), least if kept else None)
                self.assertEqual(certificate_of(("broken", host, vow)), play)
                self.assertEqual(certificate_of(("seals", host, [vow], [])), least if kept else None)
                self.assertEqual(tried(desk, "cost v" + str(at)), ["kept" if kept else str(cost)])
                if play is not None:
                    self.assertTrue(breaks(host, play, vow))
                    self.assertTrue(is_certificate(("broken", host, vow), play))
                    self.assertEqual([run.deed for run in play_all(host, play)], play.calls())
            self.assertEqual(desk.broken(), [name for name in desk.names() if not is_kept(host, desk[name])])

    def test_records_say_what_runs_do(self):
        for random_one, host in self.hosts(range(120)):
            table, entries, between = record(host)
            for (deed, state), ends in table.items():
                self.assertEqual(outcomes(host, deed, state), ends)
            deed, state = random_one.choice(host.deeds()), random_one.choice(host.boxes.states())
            for way, end in table[deed, state]:
                script = script_to(host, deed, state, way, end)
                run = run_script(host, deed, state, script)
                self.assertEqual((run.way, run.state), (way, end))
                self.assertEqual(script.cost, fewest_acts(host, deed, state, way, end))
                self.assertTrue(is_certificate(("ends", host, deed, state, way, end), script))
            # Each state between calls is one that some play ends in, and each other one is none.
            for state in host.boxes.states():
                told = Kept(States(host.boxes, [other for other in host.boxes.states() if other != state]))
                self.assertEqual(is_kept(host, told), state not in between)
            # Each state in which a deed is said to begin is one in which it begins in some play.
            for deed in host.deeds():
                for state in host.boxes.states():
                    told = Left(deed, States(host.boxes, [state]), States(host.boxes, []))
                    self.assertEqual(is_kept(host, told), state not in entries[deed])

    def test_sights_are_seen(self):
        for _, host in self.hosts(range(60)):
            for (hook, rank), states in sights(host).items():
                for state in host.boxes.states():
                    told = Whole(hook, States(host.boxes, [other for other in host.boxes.states() if other != state]))
                    if state in states:
                        self.assertFalse(is_kept(host, told))
            for hook in host.hooks():
                seen = {state for rank in RANKS for state in sights(host)[hook, rank]}
                self.assertTrue(is_kept(host, Whole(hook, States(host.boxes, sorted(seen)))))
                for state in seen:
                    told = Whole(hook, States(host.boxes, sorted(seen - {state})))
                    looks = [look for run in play_all(host, breaking_play(host, told)) for look in run.looks()]
                    self.assertIn((hook, state), [(look[1], look[3]) for look in looks])

    def test_one_is_enough(self):
        for random_one, host in self.hosts(range(120)):
            deed, state = random_one.choice(host.deeds()), random_one.choice(host.boxes.states())
            parts = random_parts(random_one, host)
            run, one = run_parts(host, deed, state, parts), as_one(host, deed, state, parts)
            self.assertEqual(run_script(host, deed, state, one).sequence(), run.sequence())
            self.assertIn((run.way, run.state), outcomes(host, deed, state))
            # No script that does the same is cheaper than the least one.
            self.assertGreaterEqual(one.cost, fewest_acts(host, deed, state, run.way, run.state))

    def test_sealed_least_sets_keep(self):
        for random_one, host in self.hosts(range(60)):
            powers = random_one.sample(host.powers(), min(5, len(host.powers())))
            vows = random_one.sample(random_vows(random_one, host), 2)
            found = least_seals(host, vows, powers)
            for sealed in found:
                for vow in vows:
                    self.assertTrue(is_kept(host - sealed, vow))
                    self.assertTrue(is_certificate(("seals", host, vows, sealed), record(host - sealed)))
                for power in sealed:
                    self.assertFalse(all(is_kept(host - sealed + [power], vow) for vow in vows))
                desk = Desk(host)
                for at, vow in enumerate(vows):
                    desk["v" + str(at)] = vow
                desk.seal(sealed)
                self.assertEqual([desk.host, desk.do("broken")], [host - sealed, "none"])
            self.assertEqual(needed_seals(host, vows, powers) is None, found == [])

    def test_a_record_with_more_powers_says_no_less(self):
        for random_one, host in self.hosts(range(60)):
            wider = host + host.all_powers()
            self.assertTrue(is_record(host, record(wider)))
            for vow in random_vows(random_one, host):
                if is_kept(wider, vow):
                    self.assertTrue(is_kept(host, vow))
                    self.assertTrue(shows(host, record(wider), vow))
                else:
                    self.assertTrue(breaking_cost(host, vow) is None or breaking_cost(wider, vow) <= breaking_cost(host, vow))

    def test_hosts_that_are_alike_keep_the_same(self):
        for random_one, host in self.hosts(range(60)):
            other = Host(
                host.boxes, host.first, [(deed, [Do("more"), *host.body(deed)][random_one.randint(0, 1):]) for deed in host.deeds()],
                {hook: host.core(hook) for hook in host.hooks()}, host.open_deeds(), host.powers(),
            ) if len(host) + len(host.deeds()) <= 40 else host
            self.assertTrue(are_alike(host, other))
            self.assertEqual([record(host)[2], sights(host)], [record(other)[2], sights(other)])
            play = parting_play(host, other, steps=True)
            self.assertEqual(play is None, are_alike(host, other, steps=True))
            if play is not None:
                self.assertNotEqual(sightings(host, play, True), sightings(other, play, True))
                self.assertEqual(sightings(host, play), sightings(other, play))

    def test_texts(self):
        for _, host in self.hosts(range(40)):
            told = read_host(host_text(host))
            self.assertEqual([told, record(told), sights(told)], [host, record(host), sights(host)])
            self.assertTrue(are_alike(told, host, steps=True))

    def test_behind_and_once_of_the_example(self):
        host = read_host(TEXT)
        self.assertTrue(is_kept(host, Behind("pay", "charge", "charge")) is False)
        self.assertEqual(breaking_play(host, Behind("pay", "charge", "other")), Play(["pay"], Script()))
