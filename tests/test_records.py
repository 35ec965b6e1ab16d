"""Promises [41] to [43] and the interface of hookvows/records.py: outcomes, records and sights."""

import random
import unittest

from hookvows.boxes import Boxes
from hookvows.errors import InvalidHost, InvalidState, UnknownDeed
from hookvows.hosts import RANKS, Host
from hookvows.live import run_parts, run_script
from hookvows.records import is_record, outcomes, record, sights
from hookvows.scripts import Script
from hookvows.statements import Call, Do, Fail, Fire, Guard, If, Last, Put
from tests.model import random_host, random_parts, random_script
from tests.sample_hosts import BIT, bit_host, free_host, nested_host, pay_host
from tests.samples import WRONG_NAMES, AlwaysEqual, NeverEqual, containers, no_strings, odd_values


class TestOutcomes(unittest.TestCase):
    def ends(self, body, *words, core=(), first=(0,)):
        return outcomes(bit_host(body, [(*word, "")[:4] for word in words], core), "run", first)

    def test_without_hooks_there_is_one(self):
        self.assertEqual(self.ends([]), [("well", (0,))])
        self.assertEqual(self.ends([Put("a", 1)]), [("well", (1,))])
        self.assertEqual(self.ends([Put("a", 1), Fail(), Put("a", 0)]), [("failed", (1,))])
        self.assertEqual(self.ends([If("a", 0, [Fail()], [Put("a", 0)])]), [("failed", (0,))])
        self.assertEqual(self.ends([If("a", 0, [Fail()], [Put("a", 0)])], first=(1,)), [("well", (0,))])
        self.assertEqual(self.ends([Last([Fail()], [Put("a", 1)])]), [("failed", (1,))])
        self.assertEqual(self.ends([Last([Put("a", 1)], [Fail()])]), [("failed", (1,))])
        self.assertEqual(self.ends([Guard([Put("a", 1), Fail()], [])]), [("well", (1,))])

    def test_each_power_alone(self):
        fire = [Fire("h")]
        self.assertEqual(self.ends(fire), [("well", (0,))])
        for rank in RANKS:
            self.assertEqual(self.ends(fire, ("h", rank, "lend", "a")), [("well", (0,)), ("well", (1,))])
            self.assertEqual(self.ends(fire, ("h", rank, "fail")), [("failed", (0,)), ("well", (0,))])
            self.assertEqual(self.ends(fire, ("h", rank, "door", "run")), [("well", (0,))])
        put = [Put("a", 1)]
        self.assertEqual(self.ends(fire, core=put), [("well", (1,))])
        self.assertEqual(self.ends(fire, ("h", "ahead", "answer"), core=put), [("well", (0,)), ("well", (1,))])
        self.assertEqual(self.ends(fire, ("h", "around", "skip"), core=put), [("well", (0,)), ("well", (1,))])
        turn = [If("a", 0, [Put("a", 1)], [Put("a", 0)])]
        self.assertEqual(self.ends(fire, core=turn), [("well", (1,))])
        self.assertEqual(self.ends(fire, ("h", "around", "again"), core=turn), [("well", (0,)), ("well", (1,))])
        self.assertEqual(self.ends(fire, core=[Fail()]), [("failed", (0,))])
        self.assertEqual(
            self.ends(fire, ("h", "around", "swallow"), core=[Fail()]), [("failed", (0,)), ("well", (0,))]
        )

    def test_a_failure_of_the_core_is_not_mended_by_coming_again(self):
        core = [If("a", 0, [Put("a", 1), Fail()])]
        self.assertEqual(self.ends([Fire("h")], ("h", "around", "again"), core=core), [("failed", (1,))])
        # With swallow only the first failure has to be swallowed.
        both = [("h", "around", "again"), ("h", "around", "swallow")]
        self.assertEqual(self.ends([Fire("h")], *both, core=core), [("failed", (1,)), ("well", (1,))])

    def test_a_later_failure_of_the_core_is_swallowed_by_coming_again(self):
        core = [If("a", 0, [Put("a", 1)], [Put("a", 0), Fail()])]
        again, swallow = ("h", "around", "again"), ("h", "around", "swallow")
        self.assertEqual(self.ends([Fire("h")], again, core=core), [("failed", (0,)), ("failed", (1,)), ("well", (1,))])
        self.assertEqual(self.ends([Fire("h")], swallow, core=core), [("well", (1,))])
        # The core comes well, and then fails, which is swallowed.
        self.assertEqual(
            self.ends([Fire("h")], again, swallow, core=core), [(way, (a,)) for way in ["failed", "well"] for a in [0, 1]]
        )

    def test_behind_comes_only_if_all_ahead_of_it_ended_well(self):
        lend = ("h", "behind", "lend", "a")
        self.assertEqual(self.ends([Fire("h")], lend, core=[Fail()]), [("failed", (0,))])
        self.assertEqual(
            self.ends([Fire("h")], lend, ("h", "around", "skip"), core=[Fail()]),
            [("failed", (0,)), ("well", (0,)), ("well", (1,))],
        )
        # An answer ends the firing: nothing behind it comes.
        body = [Put("a", 0), Fire("h")]
        core = [Put("a", 1), Fail()]
        self.assertEqual(
            self.ends(body, lend, ("h", "ahead", "answer"), core=core), [("failed", (1,)), ("well", (0,))]
        )

    def test_a_deed_that_calls_itself_through_a_door_at_the_firing_that_it_does(self):
        # Each run within puts a to 1 behind its own firing: the outer one sees it.
        body = [Fire("h"), If("a", 1, [Fail()]), Put("a", 1)]
        self.assertEqual(self.ends(body), [("well", (1,))])
        self.assertEqual(self.ends(body, ("h", "ahead", "door", "run")), [("failed", (1,)), ("well", (1,))])
        self.assertEqual(self.ends(body, ("h", "ahead", "door", "run"), first=(1,)), [("failed", (1,))])

    def test_as_many_doors_within_one_another_as_it_takes(self):
        # Each run raises b by one at most, ahead of the doors within it; the last one sees b at its highest.
        boxes = Boxes({"b": 4, "c": 2})
        body = [
            If("b", 0, [Put("b", 1)], [If("b", 1, [Put("b", 2)], [If("b", 2, [Put("b", 3)], [Put("c", 1)])])]), Fire("h"),
        ]
        host = Host(boxes, (0, 0), [("run", body)], {"h": []}, ["run"], [("h", "behind", "door", "run")])
        self.assertEqual(outcomes(host, "run", (0, 0)), [("well", (b, 0)) for b in [1, 2, 3]] + [("well", (3, 1))])
        self.assertEqual(outcomes(host - host.powers(), "run", (0, 0)), [("well", (1, 0))])

    def test_calls_and_doors_to_deeds_that_are_not_open(self):
        host = bit_host([Guard([Call("low")]), Fire("h")], further=[("low", [Put("a", 1), Fail()])])
        self.assertEqual(outcomes(host, "run", (0,)), [("well", (1,))])
        self.assertEqual(outcomes(host, "low", (0,)), [("failed", (1,))])
        host = bit_host([Fire("h")], [("h", "ahead", "door", "low")], further=[("low", [Put("a", 1), Fail()])])
        self.assertEqual(outcomes(host, "run", (0,)), [("well", (0,)), ("well", (1,))])

    def test_all_powers_at_a_small_host(self):
        host = free_host([Fire("h")])
        states = host.boxes.states()
        self.assertEqual(outcomes(host, "run", (0, 0)), [(way, state) for way in ["failed", "well"] for state in states])

    def test_runs_end_in_outcomes(self):
        for seed in range(200):
            random_one, host = random.Random(seed), random_host(seed)
            deed, state = random_one.choice(host.deeds()), random_one.choice(host.boxes.states())
            found = outcomes(host, deed, state)
            self.assertEqual(found, sorted(found))
            for _ in range(5):
                run = run_script(host, deed, state, random_script(random_one, host))
                self.assertIn((run.way, run.state), found)
                run = run_parts(host, deed, state, random_parts(random_one, host))
                self.assertIn((run.way, run.state), found)

    def test_returned_lists_are_new(self):
        host = pay_host()
        outcomes(host, "pay", (0, 0)).clear()
        self.assertEqual(outcomes(host=host, deed="pay", state=(0, 0)), [("well", (0, 1))])

    def test_errors(self):
        host = pay_host()
        for value in [None, host.boxes, *odd_values()]:
            for call in [lambda: outcomes(value, None, None), lambda: record(value), lambda: sights(value),
                         lambda: is_record(value, None)]:
                with self.assertRaises(InvalidHost) as caught:
                    call()
                self.assertIs(caught.exception.value, value)
        for value in ["other", *WRONG_NAMES, *no_strings(), *containers()]:
            with self.assertRaises(UnknownDeed) as caught:
                outcomes(host, value, None)
            self.assertIs(caught.exception.value, value)
        for value in [(0,), (0, 2), (0, True), [0, 0], None, "busy=0 paid=0", *odd_values()]:
            with self.assertRaises(InvalidState) as caught:
                outcomes(host, "pay", value)
            self.assertIs(caught.exception.value, value)


class TestLeastRecord(unittest.TestCase):
    def test_the_overview(self):
        table, entries, between = record(pay_host())
        self.assertEqual(table, {("pay", state): [("well", (0, 1))] for state in pay_host().boxes.states()})
        # Through the door pay begins while it is busy already.
        self.assertEqual(entries, {"pay": [(0, 0), (0, 1), (1, 0), (1, 1)]})
        self.assertEqual(between, [(0, 0), (0, 1)])
        self.assertEqual(record(pay_host(()))[1], {"pay": [(0, 0), (0, 1)]})

    def test_kinds_and_sequences(self):
        for host in [nested_host(), pay_host(), free_host([Fire("h")], further=[("aa", []), ("zz", [])])]:
            told = record(host)
            self.assertIsInstance(told, tuple)
            table, entries, between = told
            self.assertEqual(list(table), sorted((deed, state) for deed in host.deeds() for state in host.boxes.states()))
            self.assertEqual(list(entries), sorted(host.deeds()))
            for listed in [*table.values(), *entries.values(), between]:
                self.assertIsInstance(listed, list)
                self.assertEqual(listed, sorted(set(listed)))
            for (deed, state), ends in table.items():
                self.assertEqual(ends, outcomes(host, deed, state))

    def test_only_what_is_needed_from_the_first_state_on(self):
        flip = [If("a", 0, [Put("a", 1)], [Fail()])]
        host = bit_host(flip, further=[("low", []), ("high", [Call("low")])], open_deeds=["run"])
        table, entries, between = record(host)
        self.assertEqual(between, [(0,), (1,)])
        self.assertEqual(entries, {"high": [], "low": [], "run": [(0,), (1,)]})
        # What no run comes to stands in the table all the same.
        self.assertEqual(table["high", (1,)], [("well", (1,))])
        self.assertEqual(record(host.from_state((1,)))[1:], ({"high": [], "low": [], "run": [(1,)]}, [(1,)]))

    def test_no_open_deeds(self):
        host = bit_host([Put("a", 1)], open_deeds=[])
        self.assertEqual(record(host)[1:], ({"run": []}, [(0,)]))

    def test_entries_by_call_and_through_doors(self):
        further = [("low", []), ("door", [Call("low")])]
        host = bit_host([Put("a", 1), Fire("h"), Put("a", 0)], [("h", "behind", "door", "door")], further=further)
        self.assertEqual(record(host)[1], {"door": [(1,)], "low": [(1,)], "run": [(0,)]})
        host = bit_host([Put("a", 1), Call("low"), Put("a", 0)], further=further)
        self.assertEqual(record(host)[1], {"door": [], "low": [(1,)], "run": [(0,)]})
        # Between the states of a call that was not closed by any run, nothing is called.
        host = bit_host([Guard([Fail(), Call("low")])], further=further)
        self.assertEqual(record(host)[1], {"door": [], "low": [], "run": [(0,)]})

    def test_a_returned_record_is_new(self):
        host = pay_host()
        table, entries, between = record(host)
        table["pay", (0, 0)].append(("failed", (0, 0)))
        entries["pay"].clear()
        between.append((1, 1))
        self.assertEqual(record(host)[1]["pay"], [(0, 0), (0, 1), (1, 0), (1, 1)])
        self.assertTrue(is_record(host, record(host)))


class TestIsRecord(unittest.TestCase):
    def setUp(self):
        self.host = bit_host(
            [Fire("h"), Put("a", 1)], [("h", "ahead", "fail", "")], further=[("low", [Put("a", 0)])]
        )
        self.least = {
            ("low", (0,)): [("well", (0,))], ("low", (1,)): [("well", (0,))],
            ("run", (0,)): [("failed", (0,)), ("well", (1,))], ("run", (1,)): [("failed", (1,)), ("well", (1,))],
        }, {"low": [], "run": [(0,), (1,)]}, [(0,), (1,)]

    def test_the_least_one(self):
        self.assertEqual(record(self.host), self.least)
        self.assertIs(is_record(self.host, self.least), True)
        for seed in range(100):
            host = random_host(seed)
            self.assertIs(is_record(host, record(host)), True)

    def test_any_sequence_and_tuples(self):
        table, entries, between = self.least
        turned = {key: tuple(table[key][::-1]) for key in list(table)[::-1]}
        self.assertTrue(is_record(self.host, (turned, {"run": ((1,), (0,)), "low": ()}, ((1,), (0,)))))

    def with_ends(self, key, ends):
        table, entries, between = self.least
        return {**table, key: ends}, entries, between

    def test_larger_tables(self):
        low = ("low", (0,))
        for ends in [[("failed", (0,)), ("well", (0,))], [("well", (1,)), ("well", (0,)), ("failed", (1,))]]:
            self.assertTrue(is_record(self.host, self.with_ends(low, ends)))
        # What the table lets open deeds end in must stand between.
        host = bit_host([], open_deeds=["run"])
        table, entries, between = record(host)
        larger = {**table, ("run", (0,)): [("well", (0,)), ("failed", (1,))]}
        self.assertFalse(is_record(host, (larger, entries, between)))
        self.assertFalse(is_record(host, (larger, entries, [(0,), (1,)])))
        self.assertTrue(is_record(host, (larger, {"run": [(0,), (1,)]}, [(0,), (1,)])))
        self.assertTrue(is_record(host, (table, {"run": [(0,), (1,)]}, between)))
        self.assertTrue(is_record(host, (table, {"run": [(1,), (0,)]}, [(1,), (0,)])))

    def test_a_larger_table_can_need_more(self):
        # If low is said to end in 1 as well, run, which calls it, must be said to end so, too.
        host = bit_host([Call("low")], further=[("low", [Put("a", 0)])])
        table, entries, between = record(host)
        more = [("well", (0,)), ("well", (1,))]
        larger = {**table, ("low", (0,)): more}
        self.assertFalse(is_record(host, (larger, entries, between)))
        larger = {**larger, ("run", (0,)): more}
        self.assertFalse(is_record(host, (larger, entries, between)))
        both = [(0,), (1,)]
        self.assertFalse(is_record(host, (larger, {**entries, "run": both}, both)))
        self.assertFalse(is_record(host, (larger, {"low": both, "run": [(0,)]}, both)))
        self.assertTrue(is_record(host, (larger, {"low": both, "run": both}, both)))

    def test_what_is_missing(self):
        table, entries, between = self.least
        for key in table:
            for end in table[key]:
                self.assertFalse(is_record(self.host, self.with_ends(key, [other for other in table[key] if other != end])))
            self.assertFalse(is_record(self.host, ({other: table[other] for other in table if other != key}, entries, between)))
        for state in between:
            left = [other for other in between if other != state]
            self.assertFalse(is_record(self.host, (table, entries, left)))
            self.assertFalse(is_record(self.host, (table, {**entries, "run": left}, between)))
        for deed in entries:
            self.assertFalse(is_record(self.host, (table, {name: entries[name] for name in entries if name != deed}, between)))

    def test_what_stands_twice_or_is_not_the_hosts(self):
        table, entries, between = self.least
        for key in table:
            for end in [table[key][0], ("well", (2,)), ("well", (0, 0)), ("good", (0,)), ("well", (False,)), ("well", [0]),
                        ["well", (0,)], ("well",), ("well", (0,), 0), (None, (0,)), (AlwaysEqual(), (0,)), None, "well"]:
                self.assertFalse(is_record(self.host, self.with_ends(key, [*table[key], end])), end)
        for state in [(0,), (2,), (True,), (0, 0), [0], 0, "a=0", None, AlwaysEqual(), NeverEqual()]:
            self.assertFalse(is_record(self.host, (table, entries, [*between, state])), state)
            self.assertFalse(is_record(self.host, (table, {**entries, "run": [*between, state]}, between)), state)
        for state in [(2,), (True,), [0], None]:
            self.assertFalse(is_record(self.host, (table, {**entries, "low": [state]}, between)))
        self.assertTrue(is_record(self.host, (table, {**entries, "low": [(1,)]}, between)))

    def test_wrong_keys(self):
        table, entries, between = self.least
        for key in [("run", (2,)), ("run", 0), ("other", (0,)), "run", ("run",), ("run", (0,), 0), (0,), None, 0, b"run"]:
            self.assertFalse(is_record(self.host, ({**table, key: []}, entries, between)))
            less = {other: table[other] for other in table if other != ("low", (0,))}
            self.assertFalse(is_record(self.host, ({**less, key: [("well", (0,))]}, entries, between)))
        false = {other: table[other] for other in table if other != ("low", (0,))}
        self.assertFalse(is_record(self.host, ({**false, ("low", (False,)): [("well", (0,))]}, entries, between)))
        for key in ["other", "Run", "", None, 0, ("run",)]:
            self.assertFalse(is_record(self.host, (table, {**entries, key: []}, between)))
            self.assertFalse(is_record(self.host, (table, {"run": entries["run"], key: []}, between)))

    def test_values_of_any_other_kind(self):
        table, entries, between = self.least
        wrong = [
            [table, entries, between], (table, entries), (table, entries, between, between), (entries, table, between),
            (table, between, entries), (None, entries, between), (table, None, between), (table, entries, None),
            (list(table.items()), entries, between), (table, list(entries.items()), between),
            (table, entries, {state: True for state in between}), (table, entries, set(between)),
            (table, {**entries, "low": None}, between), (table, {**entries, "low": {}}, between),
            (table, entries, "between"), self.host,
        ]
        for value in [*wrong, *odd_values(), *containers(), *no_strings()]:
            self.assertIs(is_record(self.host, value), False)
        for ends in [None, {}, "", ("well", (0,)), 0, *odd_values()]:
            self.assertFalse(is_record(self.host, self.with_ends(("low", (0,)), ends)))

    def test_records_of_other_hosts(self):
        other = bit_host([Fire("h")], further=[("low", [Put("a", 0)])])
        self.assertFalse(is_record(self.host, record(other)))
        self.assertFalse(is_record(self.host, record(pay_host())))
        # What is said of a host with more powers holds for one with fewer of them.
        for seed in range(100):
            host = random_host(seed)
            less = host - host.powers()[::2]
            self.assertTrue(is_record(less, record(host)))

    def test_nothing_is_changed(self):
        told = record(self.host)
        is_record(self.host, told)
        self.assertEqual(told, self.least)


class TestSights(unittest.TestCase):
    def test_all_hooks_and_ranks(self):
        host = Host(BIT, (0,), [("run", [Put("a", 1), Fire("g"), Put("a", 0)])], {"h": [], "g": []}, ["run"], [])
        found = sights(host)
        self.assertEqual(list(found), sorted((hook, rank) for hook in ["g", "h"] for rank in RANKS))
        self.assertEqual(found, {(hook, rank): [(1,)] if hook == "g" else [] for hook, rank in found})
        self.assertEqual(sights(Host(BIT, (0,), [("run", [])], {}, ["run"], [])), {})

    def test_nothing_is_seen_in_runs_that_no_play_comes_to(self):
        body = [If("a", 1, [Fire("h")])]
        self.assertEqual(set(map(tuple, sights(bit_host(body)).values())), {()})
        self.assertEqual(sights(bit_host(body, first=(1,)))["h", "ahead"], [(1,)])
        self.assertEqual(sights(bit_host([Fire("h")], open_deeds=[]))["h", "ahead"], [])

    def test_around_before_and_behind_the_core(self):
        host = bit_host([Fire("h")], core=[Put("a", 1)])
        self.assertEqual(sights(host), {("h", "ahead"): [(0,), (1,)], ("h", "around"): [(0,), (1,)], ("h", "behind"): [(1,)]})
        host = bit_host([Fire("h"), Put("a", 0)], core=[Put("a", 1), Fail()])
        # A part around that lets the core come sees what it left, although it failed.
        self.assertEqual(sights(host)["h", "around"], [(0,), (1,)])
        self.assertEqual(sights(host)["h", "behind"], [])

    def test_what_other_ranks_and_doors_leave(self):
        body = [Fire("h"), Put("a", 0)]
        for at, rank in enumerate(RANKS):
            host = bit_host(body, [("h", rank, "lend", "a")])
            # Behind the firing a is put to 0: ranks ahead of the one that lends never see it.
            self.assertEqual(
                [sights(host)["h", other] for other in RANKS], [[(0,), (1,)] if place >= at else [(0,)] for place in range(3)]
            )
        host = bit_host(body, [("h", "around", "door", "low")], further=[("low", [Put("a", 1)])])
        self.assertEqual([sights(host)["h", rank] for rank in RANKS], [[(0,)], [(0,), (1,)], [(0,), (1,)]])

    def test_after_answers_and_skips_there_is_less_to_see(self):
        host = bit_host([Fire("h")], [("h", "ahead", "answer", "")], core=[Put("a", 1)])
        self.assertEqual(sights(host)["h", "behind"], [(1,)])
        host = bit_host([Fire("h"), Put("a", 0)], [("h", "around", "skip", "")], core=[Put("a", 1)])
        self.assertEqual(sights(host)["h", "behind"], [(0,), (1,)])
        self.assertEqual(sights(host)["h", "ahead"], [(0,)])

    def test_looks_of_runs_are_sights(self):
        for seed in range(200):
            random_one, host = random.Random(seed), random_host(seed)
            found, between = sights(host), record(host)[2]
            for _ in range(5):
                deed, state = random_one.choice(host.open_deeds()), random_one.choice(between)
                for run in [run_script(host, deed, state, random_script(random_one, host)),
                            run_parts(host, deed, state, random_parts(random_one, host))]:
                    for _, hook, rank, seen in run.looks():
                        self.assertIn(seen, found[hook, rank])

    def test_returned_dicts_are_new(self):
        host = pay_host()
        sights(host)["check", "ahead"].clear()
        self.assertEqual(sights(host)["check", "ahead"], [(0, 1), (1, 0), (1, 1)])


class TestAnyDepth(unittest.TestCase):
    def test_records_hold_for_doors_within_doors(self):
        # The script opens door after door, thirty within one another.
        host = free_host([Fire("h"), Put("a", 1)], [Put("b", 1)])
        table = record(host)[0]
        for many in [0, 1, 5, 30]:
            rows = [[("door", "run")] for _ in range(many)]
            run = run_script(host, "run", (0, 0), Script(*rows))
            self.assertEqual(sum(item[0] == "called" for item in run.trace()), many + 1)
            self.assertIn((run.way, run.state), table["run", (0, 0)])

    def test_each_run_within_a_run_ends_as_the_table_says_and_begins_in_an_entry(self):
        for seed in range(200):
            random_one, host = random.Random(seed), random_host(seed)
            table, entries, between = record(host)
            run = run_script(host, random_one.choice(host.open_deeds()), host.first, random_script(random_one, host))
            for item in run.trace():
                if item[0] == "ended":
                    self.assertTrue(any(item[2:] in table[item[1], state] for state in entries[item[1]]))
            self.assertIn(run.state, between)


class TestLastAndGuard(unittest.TestCase):
    def test_bodies_within_bodies(self):
        host = bit_host(
            [Last([Guard([Fire("h")], [Put("a", 1), Fail()])], [Do("end"), If("a", 1, [Put("a", 0)], [Put("a", 1)])])],
            [("h", "behind", "fail", "")],
        )
        self.assertEqual(outcomes(host, "run", (0,)), [("failed", (0,)), ("well", (1,))])
