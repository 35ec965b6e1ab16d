"""Promises [51], [52] and the interface of hookvows/vows.py: vows, what shows them and what breaks them."""

import random
import unittest

from hookvows.boxes import Boxes
from hookvows.errors import InvalidHost, InvalidName, InvalidPlay, InvalidStates, InvalidVow, InvalidWays, OtherBoxes
from hookvows.hosts import RANKS, Host
from hookvows.live import Live, play_all
from hookvows.records import record, sights
from hookvows.scripts import Play, Script
from hookvows.sets import States
from hookvows.statements import Call, Do, Fail, Fire, Guard, Last, Put
from hookvows.vows import Behind, Kept, Left, Once, Sure, Vow, Whole, breaks, is_kept, shows
from tests.model import random_act, random_host, random_script
from tests.sample_hosts import BIT, bit_host, pay_host
from tests.sample_vows import random_vows
from tests.samples import RIGHT_NAMES, WRONG_NAMES, AlwaysEqual, NeverEqual, containers, no_strings, odd_values

ZERO = States(BIT, [(0,)])
ONE = States(BIT, [(1,)])
ALL = States.every(BIT)
NONE = States(BIT, [])


def one_of_each():
    return [
        Sure("run", "one"), Once("run", "one"), Behind("run", "one", "two"), Whole("h", ZERO),
        Left("run", ZERO, ONE), Kept(ZERO),
    ]


def no_states():
    """Values that are no States."""
    return [None, [], [(0,)], BIT, (0,), True, "a", AlwaysEqual(), *odd_values()]


class TestMaking(unittest.TestCase):
    def assert_raised(self, error, value, call):
        with self.assertRaises(error) as caught:
            call()
        self.assertIs(caught.exception.value, value)

    def test_properties(self):
        for name in RIGHT_NAMES:
            self.assertEqual([Sure(name, "b").deed, Sure("a", name).step], [name, name])
            self.assertEqual([Once(name, "b").deed, Once("a", name).step], [name, name])
            told = Behind(name, "b", "c")
            self.assertEqual([told.deed, told.step, told.first], [name, "b", "c"])
            self.assertEqual([Behind("a", name, "c").step, Behind("a", "b", name).first], [name, name])
            self.assertEqual([Whole(name, ZERO).hook, Left(name, ZERO, ONE).deed], [name, name])
        self.assertEqual([Whole("h", ONE).allowed, Kept(ONE).allowed], [ONE, ONE])
        self.assertEqual([Left("a", ZERO, ONE).begin, Left("a", ZERO, ONE).ends], [ZERO, ONE])

    def test_each_has_the_properties_of_its_parameters_alone(self):
        names = ["deed", "step", "first", "hook", "allowed", "begin", "ends"]
        wanted = [["deed", "step"], ["deed", "step"], ["deed", "step", "first"], ["hook", "allowed"],
                  ["deed", "begin", "ends"], ["allowed"]]
        for made, told in zip(one_of_each(), wanted):
            self.assertEqual([name for name in names if hasattr(made, name)], told)
            for name in told:
                self.assertIsInstance(vars(type(made))[name], property)
                with self.assertRaises(AttributeError):
                    setattr(made, name, None)
            self.assertEqual(hasattr(made, "ways"), isinstance(made, (Sure, Left)))
            self.assertIsInstance(made, Vow)

    def test_by_name(self):
        self.assertEqual(Sure(step="b", deed="a"), Sure("a", "b"))
        self.assertEqual(Behind(first="c", step="b", deed="a"), Behind("a", "b", "c"))
        self.assertEqual(Whole(allowed=ONE, hook="h"), Whole("h", ONE))
        self.assertEqual(Left(ends=ONE, begin=ZERO, deed="a"), Left("a", ZERO, ONE))
        self.assertEqual(Kept(allowed=ONE), Kept(ONE))

    def test_ways(self):
        for make in [lambda *ways: Sure("a", "b", *ways), lambda *ways: Left("a", ZERO, ONE, *ways)]:
            for ways in [(), ("well", "failed"), ("failed", "well")]:
                self.assertEqual(make(*ways).ways(), ["failed", "well"])
                self.assertEqual(make(*ways), make())
            for way in ["well", "failed"]:
                self.assertEqual(make(way).ways(), [way])
                self.assertNotEqual(make(way), make())
            self.assertNotEqual(make("well"), make("failed"))
            make().ways().clear()
            self.assertEqual(make().ways(), ["failed", "well"])

    def test_invalid_ways(self):
        for make in [lambda *ways: Sure("a", "b", *ways), lambda *ways: Left("a", ZERO, ONE, *ways)]:
            wrong = [("well", "well"), ("failed", "well", "failed"), ("good",), ("Well",), ("",), ("well", None), (None,),
                     (["well"],), (("well",),), (True,), (AlwaysEqual(),), ("well", NeverEqual())]
            for ways in wrong:
                with self.assertRaises(InvalidWays) as caught:
                    make(*ways)
                self.assertIsInstance(caught.exception.value, tuple)
                self.assertEqual(len(caught.exception.value), len(ways))
                self.assertTrue(all(one is other for one, other in zip(caught.exception.value, ways)))

    def test_invalid_names(self):
        for name in [*WRONG_NAMES, *no_strings(), *containers()]:
            for call in [
                lambda: Sure(name, None, None), lambda: Sure("a", name, None), lambda: Once(name, None),
                lambda: Once("a", name), lambda: Behind(name, None, None), lambda: Behind("a", name, None),
                lambda: Behind("a", "b", name), lambda: Whole(name, None), lambda: Left(name, None, None, None),
            ]:
                self.assert_raised(InvalidName, name, call)

    def test_invalid_states(self):
        for value in no_states():
            for call in [
                lambda: Whole("h", value), lambda: Kept(value), lambda: Left("a", value, None, None),
                lambda: Left("a", ZERO, value, None),
            ]:
                self.assert_raised(InvalidStates, value, call)

    def test_other_boxes(self):
        other = States(Boxes({"a": 3}), [])
        for one, two in [(ZERO, other), (other, ZERO)]:
            with self.assertRaises(OtherBoxes) as caught:
                Left("a", one, two, "never")
            self.assertEqual([caught.exception.one, caught.exception.other], [one.boxes, two.boxes])
        self.assertEqual(Left("a", ZERO, States(Boxes({"a": 2}), [])).ends, NONE)

    def test_equal_ones(self):
        for one, other in zip(one_of_each(), one_of_each()):
            self.assertTrue(one == other)
            self.assertFalse(one != other)
        self.assertEqual(Whole("h", States(Boxes({"a": 2}), [(0,), (0,)])), Whole("h", ZERO))

    def test_unequal_ones(self):
        vows = [
            *one_of_each(), Sure("other", "one"), Sure("run", "two"), Sure("run", "one", "well"), Once("other", "one"),
            Once("run", "two"), Behind("other", "one", "two"), Behind("run", "two", "two"), Behind("run", "one", "one"),
            Behind("run", "two", "one"), Whole("g", ZERO), Whole("h", ONE), Left("other", ZERO, ONE), Left("run", ONE, ONE),
            Left("run", ZERO, ZERO), Left("run", ZERO, ONE, "well"), Kept(ONE), Whole("h", States(Boxes({"b": 2}), [(0,)])),
            Kept(States(Boxes({"b": 2}), [(0,)])),
        ]
        for at, one in enumerate(vows):
            for other in vows[:at]:
                self.assertFalse(one == other)
                self.assertTrue(one != other)
            for value in [None, "run", ("run", "one"), NeverEqual(), ZERO, *containers()]:
                self.assertFalse(one == value)

    def test_fits(self):
        host = bit_host([], further=[("low", [])])
        for vow in one_of_each():
            self.assertIs(vow.fits(host), True)
        for vow in [Sure("low", "none"), Once("low", "none"), Behind("low", "none", "none"), Left("low", NONE, NONE)]:
            self.assertIs(vow.fits(host), True)
        other = States(Boxes({"b": 2}), [])
        for vow in [
            Sure("none", "a"), Once("none", "a"), Behind("none", "a", "b"), Whole("g", ZERO), Whole("h", other),
            Left("none", ZERO, ONE), Left("run", other, other), Kept(other), Sure("h", "a"), Whole("run", ZERO),
            Kept(States(Boxes({"a": 3}), [])), Kept(States(Boxes({"a": 2, "b": 2}), [])),
        ]:
            self.assertIs(vow.fits(host), False)
        for vow in one_of_each():
            for value in [None, BIT, *odd_values()]:
                self.assert_raised(InvalidHost, value, lambda: vow.fits(value))
            self.assertTrue(vow.fits(host=host))


class TestErrors(unittest.TestCase):
    def test_hosts_and_vows(self):
        host = bit_host([])
        for value in [None, BIT, *odd_values()]:
            for call in [
                lambda: is_kept(value, None), lambda: shows(value, None, None), lambda: breaks(value, None, None),
            ]:
                with self.assertRaises(InvalidHost) as caught:
                    call()
                self.assertIs(caught.exception.value, value)
        unfit = [Sure("none", "a"), Whole("g", ZERO), Kept(States(Boxes({"b": 2}), []))]
        for value in [None, "run", Kept, ZERO, AlwaysEqual(), *unfit, *odd_values(), *containers()]:
            for call in [
                lambda: is_kept(host, value), lambda: shows(host, None, value), lambda: breaks(host, Play([], Script()), value),
            ]:
                with self.assertRaises(InvalidVow) as caught:
                    call()
                self.assertIs(caught.exception.value, value)

    def test_plays(self):
        host = bit_host([], further=[("low", [])])
        wrong = [Play(["low"], Script()), Play(["run", "other"], Script()), None, ["run"], Script(), *odd_values()]
        for value in wrong:
            with self.assertRaises(InvalidPlay) as caught:
                breaks(host, value, None)
            self.assertIs(caught.exception.value, value)


class TestOneHost(unittest.TestCase):
    """Vows of single hosts: kept, or broken by a play that is told here."""

    def assert_kept(self, host, *vows):
        for vow in vows:
            self.assertIs(is_kept(host, vow), True)
            self.assertIs(shows(host, record(host), vow), True)

    def assert_broken(self, host, vow, calls, *rows):
        self.assertIs(is_kept(host, vow), False)
        self.assertIs(shows(host, record(host), vow), False)
        self.assertIs(breaks(host, Play(calls, Script(*rows)), vow), True)

    def test_the_overview(self):
        host = pay_host()
        boxes = host.boxes
        busy = States.where(boxes, "busy", 1)
        self.assert_broken(host, Whole("check", busy), ["pay"], [("door", "pay"), ("look",)])
        sealed = host - host.powers()
        self.assert_kept(sealed, Whole("check", busy), Sure("pay", "charge", "well"), Once("pay", "charge"))
        again = pay_host([("check", "around", "again", "")], [Do("test")])
        self.assert_broken(again, Once("pay", "test"), ["pay"], [], [("inner",), ("inner",)])
        self.assert_kept(again, Once("pay", "charge"))

    def test_sure(self):
        host = bit_host([Do("one"), Fail(), Do("two")])
        self.assert_kept(host, Sure("run", "one"), Sure("run", "two", "well"))
        for vow in [Sure("run", "two"), Sure("run", "two", "failed"), Sure("run", "none"), Sure("run", "none", "failed")]:
            self.assert_broken(host, vow, ["run"])
        self.assertFalse(breaks(host, Play([], Script()), Sure("run", "two")))

    def test_sure_of_a_firing(self):
        host = bit_host([Fire("h"), Do("one")], [("h", "behind", "fail", "")], [Do("core")])
        self.assert_kept(host, Sure("run", "core"), Sure("run", "one", "well"))
        self.assert_broken(host, Sure("run", "one", "failed"), ["run"], [], [], [("fail",)])
        host = host + [("h", "ahead", "answer", "")]
        self.assert_broken(host, Sure("run", "core", "well"), ["run"], [("answer",)])
        self.assert_kept(host, Sure("run", "core", "failed"))

    def test_once(self):
        self.assert_kept(bit_host([Do("one"), Do("two")]), Once("run", "one"), Once("run", "none"))
        self.assert_broken(bit_host([Do("one"), Do("one")]), Once("run", "one"), ["run"])
        host = bit_host([Do("core"), Fire("h")], [("h", "ahead", "answer", "")], [Do("core")])
        self.assert_broken(host, Once("run", "core"), ["run"])
        self.assertFalse(breaks(host, Play(["run"], Script([("answer",)])), Once("run", "core")))
        # Two runs that do the step once each do not break it.
        self.assertFalse(breaks(bit_host([Do("one")]), Play(["run", "run"], Script()), Once("run", "one")))

    def test_behind(self):
        host = bit_host([Do("first"), Do("step"), Do("step"), Do("last")])
        self.assert_kept(host, Behind("run", "step", "first"), Behind("run", "last", "step"), Behind("run", "none", "last"))
        self.assert_broken(host, Behind("run", "step", "last"), ["run"])
        self.assert_broken(host, Behind("run", "first", "step"), ["run"])
        self.assert_broken(host, Behind("run", "step", "none"), ["run"])

    def test_behind_with_the_same_step(self):
        self.assert_broken(bit_host([Do("one")]), Behind("run", "one", "one"), ["run"])
        self.assert_broken(bit_host([Do("one"), Do("one")]), Behind("run", "one", "one"), ["run"])
        self.assert_kept(bit_host([Do("two")]), Behind("run", "one", "one"))

    def test_behind_is_asked_although_the_run_fails(self):
        self.assert_broken(bit_host([Do("step"), Fail()]), Behind("run", "step", "first"), ["run"])
        self.assert_kept(bit_host([Fail(), Do("step")]), Behind("run", "step", "first"))

    def test_whole(self):
        host = bit_host([Put("a", 1), Fire("h"), Put("a", 0)])
        self.assert_kept(host, Whole("h", ONE), Whole("h", ALL))
        for rank in range(3):
            self.assert_broken(host, Whole("h", ZERO), ["run"], *[[]] * rank, [("look",)])
        self.assertFalse(breaks(host, Play(["run"], Script()), Whole("h", ZERO)))
        self.assertFalse(breaks(host, Play(["run"], Script([("inner",)], [("lend", "a", 0)])), Whole("h", ZERO)))
        # Nothing is seen where nothing is fired, and where no deed is open.
        self.assert_kept(bit_host([]), Whole("h", NONE))
        self.assert_kept(bit_host([Fire("h")], open_deeds=[]), Whole("h", NONE))

    def test_whole_asks_this_hook_alone(self):
        host = Host(BIT, (0,), [("run", [Fire("h"), Put("a", 1), Fire("g")])], {"h": [], "g": []}, ["run"], [])
        self.assert_broken(host, Whole("g", ZERO), ["run"], [], [], [], [("look",)])
        self.assert_broken(host, Whole("h", ZERO), ["run", "run"], *[[]] * 6, [("look",)])
        self.assert_kept(host, Whole("g", ONE))
        self.assertFalse(breaks(host, Play(["run"], Script([("look",)])), Whole("g", ONE)))

    def test_left(self):
        host = bit_host([Fire("h")], [("h", "ahead", "lend", "a")])
        self.assert_broken(host, Left("run", ZERO, ZERO), ["run"], [("lend", "a", 1)])
        self.assert_broken(host, Left("run", ONE, ONE), ["run", "run"], [("lend", "a", 1)], [], [], [("lend", "a", 0)])
        self.assert_kept(host, Left("run", ALL, ALL), Left("run", NONE, NONE), Left("run", ALL, NONE, "failed"))
        self.assertFalse(breaks(host, Play(["run", "run"], Script([("lend", "a", 1)])), Left("run", ONE, ONE)))

    def test_left_asks_states_in_which_runs_begin(self):
        host = bit_host([Put("a", 0)])
        self.assert_kept(host, Left("run", ONE, NONE), Left("run", ALL, ZERO))
        self.assert_broken(host, Left("run", ZERO, NONE), ["run"])
        self.assert_broken(host.from_state((1,)), Left("run", ONE, NONE), ["run"])

    def test_left_of_runs_within(self):
        body = [Put("a", 1), Fire("h"), Put("a", 0)]
        host = bit_host(body, [("h", "behind", "door", "run")])
        # Only a run through a door begins in 1.
        self.assert_broken(host, Left("run", ONE, ONE), ["run"], [], [], [("door", "run")])
        self.assert_kept(host - host.powers(), Left("run", ONE, NONE))

    def test_kept(self):
        host = bit_host([Put("a", 1), Fail()])
        self.assert_broken(host, Kept(ONE), [])
        self.assert_broken(host, Kept(NONE), [])
        self.assert_broken(host, Kept(ZERO), ["run"])
        self.assert_kept(host, Kept(ALL))
        self.assertFalse(breaks(host, Play([], Script()), Kept(ZERO)))
        # States within a run do not matter.
        self.assert_kept(bit_host([Put("a", 1), Put("a", 0)]), Kept(ZERO))
        # A host without open deeds stays in its first state.
        self.assert_kept(bit_host([Put("a", 1)], open_deeds=[]), Kept(ZERO))
        self.assert_broken(bit_host([], open_deeds=[]), Kept(ONE), [])

    def test_a_deed_that_no_play_runs(self):
        host = bit_host([], further=[("low", [Do("one"), Do("one"), Put("a", 1)])])
        self.assert_kept(
            host, Sure("low", "none"), Once("low", "one"), Behind("low", "one", "two"), Left("low", ALL, NONE)
        )

    def test_runs_by_call_are_asked(self):
        further = [("low", [Do("one"), Do("one"), Put("a", 1)])]
        host = bit_host([Call("low")], further=further)
        for vow in [Sure("low", "none"), Once("low", "one"), Behind("low", "one", "two"), Left("low", ZERO, ZERO)]:
            self.assert_broken(host, vow, ["run"])

    def test_runs_through_doors_are_asked(self):
        further = [("low", [Do("one"), Do("one"), Put("a", 1)])]
        host = bit_host([Fire("h")], [("h", "around", "door", "low")], further=further)
        for vow in [Sure("low", "none"), Once("low", "one"), Behind("low", "one", "two"), Left("low", ZERO, ZERO)]:
            self.assert_broken(host, vow, ["run"], [], [("door", "low")])
            self.assertFalse(breaks(host, Play(["run"], Script()), vow))

    def test_own_steps_alone_count(self):
        further = [("low", [Do("one")])]
        by_call = bit_host([Call("low"), Call("low")], further=further)
        by_door = bit_host([Fire("h")], [("h", "ahead", "door", "low")], further=further)
        play = Play(["run"], Script([("door", "low"), ("door", "low")]))
        for host in [by_call, by_door]:
            self.assert_kept(host, Once("run", "one"), Behind("run", "one", "two"), Once("low", "one"), Sure("low", "one"))
            self.assert_broken(host, Sure("run", "one"), ["run"])
            self.assertTrue(breaks(host, play, Sure("run", "one")))
            self.assertFalse(breaks(host, play, Once("run", "one")))

    def test_steps_of_a_deed_that_runs_within_itself(self):
        host = bit_host([Do("one"), Fire("h")], [("h", "ahead", "door", "run")])
        play = Play(["run"], Script([("door", "run")], [("door", "run")]))
        self.assertEqual([item for run in play_all(host, play) for item in run.trace()].count(("did", "one")), 3)
        self.assertFalse(breaks(host, play, Once("run", "one")))
        self.assert_kept(host, Once("run", "one"), Sure("run", "one"))
        # The step behind the firing is done in each run by itself.
        host = bit_host([Fire("h"), Do("two")], [("h", "ahead", "door", "run"), ("h", "behind", "fail", "")])
        self.assert_broken(host, Sure("run", "two", "failed"), ["run"], [], [], [("fail",)])
        self.assert_kept(host, Sure("run", "two", "well"), Once("run", "two"))

    def test_steps_of_cores_are_own_steps_of_the_run_that_fires(self):
        further = [("low", [Fire("h")])]
        host = bit_host([Guard([Call("low")]), Do("two")], core=[Do("one"), Fail()], further=further)
        self.assert_kept(host, Sure("low", "one"), Behind("run", "one", "none"), Sure("run", "two"))
        self.assert_broken(host, Sure("run", "one"), ["run"])

    def test_steps_behind_a_failure(self):
        host = bit_host([Last([Guard([Do("one"), Fail()], [Do("two")]), Fail()], [Do("last")])])
        self.assert_kept(
            host, Sure("run", "one"), Sure("run", "two"), Sure("run", "last"), Behind("run", "last", "two"),
            Behind("run", "two", "one"),
        )


class TestShows(unittest.TestCase):
    def test_any_record_that_shows_it(self):
        host = bit_host([Fire("h"), Put("a", 1)])
        table, entries, between = record(host)
        vow = Left("run", ALL, ONE)
        self.assertTrue(shows(host, (table, entries, between), vow))
        larger = {key: [*ends, ("failed", (1,))] for key, ends in table.items()}
        # The record need not have the ends of runs exactly: the runs themselves are asked.
        self.assertTrue(shows(host, (larger, entries, between), Left("run", ALL, ALL, "well")))
        self.assertTrue(shows(host, (larger, entries, between), Left("run", ALL, NONE, "failed")))
        self.assertTrue(shows(host, ({key: tuple(ends) for key, ends in table.items()}, entries, tuple(between)), vow))

    def test_a_larger_record_that_does_not_show_a_vow_that_is_kept(self):
        host = bit_host([Put("a", 0), Fire("h")])
        self.assertTrue(is_kept(host, Kept(ZERO)))
        table, entries, between = record(host)
        both = [(0,), (1,)]
        self.assertFalse(shows(host, (table, {"run": both}, both), Kept(ZERO)))
        self.assertTrue(shows(host, (table, {"run": both}, between), Kept(ZERO)))
        self.assertTrue(shows(host, (table, {"run": both}, both), Whole("h", ZERO)))

    def test_a_larger_table_of_what_is_called(self):
        host = bit_host([Call("low"), Fire("h"), Put("a", 0)], further=[("low", [])])
        table, entries, between = record(host)
        vow = Whole("h", ZERO)
        self.assertTrue(is_kept(host, vow))
        more = {**table, ("low", (0,)): [("well", (0,)), ("well", (1,))]}
        self.assertTrue(shows(host, (more, entries, between), Once("run", "one")))
        self.assertFalse(shows(host, (more, entries, between), vow))
        self.assertFalse(shows(host, ({**more, ("run", (0,)): []}, entries, between), Once("run", "one")))

    def test_entries_of_the_deed_alone_are_asked(self):
        host = bit_host([Put("a", 0)], further=[("low", [Put("a", 1)])])
        table, entries, between = record(host)
        for vow in [Sure("low", "one"), Left("low", ALL, NONE)]:
            self.assertTrue(shows(host, (table, entries, between), vow))
            self.assertFalse(shows(host, (table, {**entries, "low": [(1,)]}, between), vow))
        self.assertTrue(shows(host, (table, {**entries, "low": [(1,)]}, between), Left("low", ZERO, NONE)))

    def test_spoilt_records_and_other_values(self):
        host = bit_host([Fire("h"), Put("a", 1)], further=[("low", [])])
        table, entries, between = record(host)
        spoilt = [
            (table, entries, between[:1]), (table, {**entries, "run": []}, between), (table, entries), [table, entries, between],
            ({**table, ("low", (0,)): []}, entries, between), (table, {"run": between}, between), table,
        ]
        for vow in [*one_of_each(), Kept(ALL), Sure("low", "none")]:
            for value in [*spoilt, *odd_values(), *containers(), *no_strings()]:
                self.assertIs(shows(host, value, vow), False)

    def test_by_name(self):
        host = bit_host([])
        self.assertTrue(shows(host=host, value=record(host), vow=Kept(ZERO)))
        self.assertTrue(is_kept(host=host, vow=Kept(ZERO)))
        self.assertFalse(breaks(host=host, play=Play([], Script()), vow=Kept(ZERO)))

    def test_a_vow_is_kept_if_some_record_shows_it(self):
        found = {True: 0, False: 0}
        for seed in range(150):
            random_one, host = random.Random(seed), random_host(seed)
            more = record(host.from_state(random_one.choice(host.boxes.states())) + host.all_powers())
            for vow in random_vows(random_one, host):
                self.assertEqual(shows(host, record(host), vow), is_kept(host, vow))
                told = shows(host, more, vow)
                found[told] += 1
                if told:
                    self.assertTrue(is_kept(host, vow))
        self.assertGreater(min(found.values()), 50)


class TestPlaysAndParts(unittest.TestCase):
    def test_what_some_play_breaks_is_not_kept(self):
        broken = set()
        for seed in range(250):
            random_one, host = random.Random(seed), random_host(seed)
            for vow in random_vows(random_one, host):
                kept = is_kept(host, vow)
                for _ in range(3):
                    calls = [random_one.choice(host.open_deeds()) for _ in range(random_one.randint(0, 3))]
                    play = Play(calls, random_script(random_one, host))
                    if breaks(host, play, vow):
                        self.assertFalse(kept)
                        broken.add(type(vow))
        self.assertEqual(broken, {Sure, Once, Behind, Whole, Left, Kept})

    def acting(self, random_one, host):
        """An action that does what comes to its mind, as long as it has acts left."""
        left = [8]

        def act(visit):
            for _ in range(random_one.randint(0, 3)):
                if left[0] == 0:
                    return
                left[0] -= 1
                word, *told = random_act(random_one, host)
                getattr(visit, word)(*told)

        return act

    def test_runs_with_any_parts(self):
        for seed in range(200):
            random_one, host = random.Random(seed), random_host(seed)
            live = Live(host)
            for _ in range(random_one.randint(1, 4)):
                live.add(random_one.choice(RANKS), self.acting(random_one, host))
            runs = [live.call(random_one.choice(host.open_deeds())) for _ in range(3)]
            seen = sights(host)
            for run in runs:
                for _, hook, rank, state in run.looks():
                    self.assertIn(state, seen[hook, rank])
            for vow in random_vows(random_one, host):
                if is_kept(host, vow):
                    for run in runs:
                        self.assert_kept_by(run, vow)

    def assert_kept_by(self, run, vow):
        """What can be told of a run from its trace alone, in a way of its own."""
        if isinstance(vow, Kept):
            self.assertIn(run.state, vow.allowed)
        if isinstance(vow, Whole):
            for _, hook, _, state in run.looks():
                self.assertTrue(hook != vow.hook or state in vow.allowed)
        if isinstance(vow, Left) and run.deed == vow.deed and run.begin in vow.begin and run.way in vow.ways():
            self.assertIn(run.state, vow.ends)
        if isinstance(vow, (Sure, Once, Behind)):
            for way, steps in self.own_steps(run, vow.deed):
                if isinstance(vow, Sure):
                    self.assertTrue(way not in vow.ways() or vow.step in steps)
                elif isinstance(vow, Once):
                    self.assertLessEqual(steps.count(vow.step), 1)
                elif vow.step in steps:
                    self.assertIn(vow.first, steps[:steps.index(vow.step)])

    def own_steps(self, run, deed):
        """For each run of the deed in this one its way and its own steps."""
        found, within = [], []
        for item in run.doings():
            if item[0] == "called":
                within.append([])
            elif item[0] == "did":
                within[-1].append(item[1])
            elif item[0] == "ended":
                steps = within.pop()
                if item[1] == deed:
                    found.append((item[2], steps))
        return found


class TestBreaks(unittest.TestCase):
    def test_single_plays(self):
        host = bit_host([Do("one"), Fire("h"), Do("two")], [("h", "ahead", "fail", ""), ("h", "ahead", "lend", "a")])
        play = Play(["run", "run"], Script([("lend", "a", 1)], [], [], [("fail",)]))
        told = [
            (Sure("run", "two"), True), (Sure("run", "two", "well"), False), (Sure("run", "one"), False),
            (Once("run", "one"), False), (Behind("run", "two", "one"), False), (Behind("run", "one", "two"), True),
            (Whole("h", NONE), False), (Left("run", ZERO, ZERO), True), (Left("run", ONE, ZERO), True),
            (Left("run", ONE, ZERO, "well"), False), (Kept(ZERO), True), (Kept(ALL), False), (Kept(ONE), True),
        ]
        for vow, is_broken in told:
            self.assertIs(breaks(host, play, vow), is_broken)

    def test_plays_that_end_at_once(self):
        host = bit_host([Do("one")])
        for play in [Play([], Script()), Play([], Script([("look",)], []))]:
            for vow in [Sure("run", "two"), Once("run", "one"), Behind("run", "one", "two"), Whole("h", NONE),
                        Left("run", ALL, NONE), Kept(ZERO)]:
                self.assertIs(breaks(host, play, vow), False)
            self.assertIs(breaks(host, play, Kept(ONE)), True)

    def test_the_host_is_not_changed(self):
        host = bit_host([Put("a", 1)])
        self.assertTrue(breaks(host, Play(["run"], Script()), Kept(ZERO)))
        self.assertTrue(breaks(host, Play(["run"], Script()), Kept(ZERO)))
        self.assertEqual(host, bit_host([Put("a", 1)]))
