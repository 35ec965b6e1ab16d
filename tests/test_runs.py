"""Promises [2], [33], [35] and [36]: guests, runs by scripts and by parts, as one, plays."""

import doctest
import pathlib
import unittest

from hookvows.boxes import Boxes
from hookvows.errors import InvalidHost, InvalidParts, InvalidPlay, InvalidRank, InvalidScript, InvalidState, NotOpen
from hookvows.errors import UnknownDeed
from hookvows.hosts import RANKS, Host
from hookvows.live import Driver, Guest, Live, Run, as_one, call_with, play_all, run_parts, run_script
from hookvows.scripts import Play, Script
from hookvows.statements import Do, Fail, Fire, If, Put
from tests.sample_hosts import free_host, pay_boxes, pay_host
from tests.samples import RIGHT_NAMES, WRONG_NAMES, AlwaysEqual, containers, no_strings, odd_values

DOC = pathlib.Path(__file__).resolve().parent.parent.parent / "shared" / "DOC.md"

FAILING = [Do("core"), Fail()]


class Broken(Exception):
    """An error of a caller."""


def no_ranks():
    """Values of all kinds that are no ranks."""
    return ["", "Ahead", "ahead ", "beside", "h", *WRONG_NAMES, *RIGHT_NAMES, *no_strings(), RANKS, ("ahead",), AlwaysEqual()]


def no_hosts():
    """Values of all kinds that are no hosts."""
    return [0, "", pay_boxes(), Host, Live(pay_host()), *odd_values(), *containers()]


class Asserts(unittest.TestCase):
    def assert_raised(self, error, value, call):
        with self.assertRaises(error) as caught:
            call()
        self.assertIs(caught.exception.__class__, error)
        if error is InvalidScript:
            self.assertIsNone(caught.exception.position)
        else:
            self.assertIs(caught.exception.value, value)


class TestGuests(Asserts):
    def test_a_part_for_a_block(self):
        seen = []
        live = Live(free_host([Fire("h")]))
        live.add("ahead", lambda visit: seen.append("stays"))
        with Guest(live, "ahead", lambda visit: seen.append("guest")) as number:
            self.assertEqual([number, live.parts()], [1, [(0, "ahead"), (1, "ahead")]])
            live.call("run")
        self.assertEqual([live.parts(), seen], [[(0, "ahead")], ["stays", "guest"]])
        live.call("run")
        self.assertEqual(seen, ["stays", "guest", "stays"])
        self.assertEqual(live.add("ahead", print), 2)

    def test_by_name_and_without_a_number(self):
        live = Live(pay_host())
        with Guest(action=lambda visit: None, rank="behind", live=live):
            self.assertEqual(live.parts(), [(0, "behind")])
        self.assertEqual(live.parts(), [])

    def test_nothing_is_added_ahead_of_the_block(self):
        live = Live(pay_host())
        guest = Guest(live, "ahead", lambda visit: None)
        self.assertEqual([live.parts(), live.add("around", print)], [[], 0])
        with guest as number:
            self.assertEqual([number, live.parts()], [1, [(0, "around"), (1, "ahead")]])

    def test_an_error_leaves_the_block(self):
        live = Live(pay_host())
        error = Broken("x")
        with self.assertRaises(Broken) as caught:
            with Guest(live, "around", lambda visit: None) as number:
                self.assertEqual(number, 0)
                raise error
        self.assertIs(caught.exception, error)
        self.assertEqual([live.parts(), live.add("ahead", print)], [[], 1])
        with self.assertRaises(NotOpen):
            with Guest(live, "around", lambda visit: None):
                live.call("none")
        self.assertEqual(live.parts(), [(1, "ahead")])

    def test_a_block_that_is_left_by_return_or_break(self):
        live = Live(pay_host())

        def leave():
            with Guest(live, "around", lambda visit: None) as number:
                return number

        self.assertEqual([leave(), live.parts()], [0, []])
        for _ in range(3):
            with Guest(live, "around", lambda visit: None):
                break
        self.assertEqual([live.parts(), leave()], [[], 2])

    def test_parts_added_and_removed_in_the_block(self):
        live = Live(pay_host())
        with Guest(live, "ahead", print) as number:
            more = live.add("behind", print)
            live.remove(number)
            self.assertEqual(live.parts(), [(more, "behind")])
            again = live.add("ahead", print)
        self.assertEqual([live.parts(), again], [[(1, "behind"), (2, "ahead")], 2])
        with Guest(live, "ahead", print):
            live.remove(1)
        self.assertEqual(live.parts(), [(2, "ahead")])

    def test_guests_within_one_another(self):
        live = Live(pay_host())
        with Guest(live, "ahead", print) as one:
            with Guest(live, "ahead", print) as other, Guest(live, "around", print) as third:
                self.assertEqual([one, other, third], [0, 1, 2])
                self.assertEqual(live.parts(), [(0, "ahead"), (1, "ahead"), (2, "around")])
            self.assertEqual(live.parts(), [(0, "ahead")])
        self.assertEqual(live.parts(), [])

    def test_one_guest_for_several_blocks(self):
        live = Live(pay_host())
        guest = Guest(live, "ahead", print)
        for number in range(3):
            with guest as told:
                self.assertEqual([told, live.parts()], [number, [(number, "ahead")]])
        with guest:
            with guest:
                self.assertEqual(live.parts(), [(3, "ahead"), (4, "ahead")])
            self.assertEqual(live.parts(), [(3, "ahead")])
        self.assertEqual(live.parts(), [])

    def test_no_ranks(self):
        live = Live(pay_host())
        for value in no_ranks():
            self.assert_raised(InvalidRank, value, lambda: Guest(live, value, print))
        self.assertEqual([live.parts(), live.add("ahead", print)], [[], 0])


class TestCallWith(Asserts):
    def test_the_runs(self):
        live = Live(free_host([Fire("h"), Put("b", 2)], [], [("more", [Do("x")])]))
        runs = call_with(live, "ahead", Driver(Script([("look",)], [("look",)])), "run", "more", "run")
        self.assertEqual([run.__class__ for run in runs], [Run] * 3)
        self.assertEqual([(run.deed, run.begin, run.state) for run in runs], [
            ("run", (0, 0), (0, 2)), ("more", (0, 2), (0, 2)), ("run", (0, 2), (0, 2)),
        ])
        self.assertEqual([run.looks() for run in runs], [[("looked", "h", "ahead", (0, 0))], [], [("looked", "h", "ahead", (0, 2))]])
        self.assertEqual([live.parts(), live.state, live.add("ahead", print)], [[], (0, 2), 1])

    def test_no_deeds(self):
        live = Live(pay_host())
        self.assertEqual([call_with(live, "ahead", print), live.parts(), live.add("ahead", print)], [[], [], 1])

    def test_beside_other_parts(self):
        live = Live(free_host([Fire("h")]))
        live.add("behind", Driver(Script([("look",)])))
        runs = call_with(live, "ahead", Driver(Script([("look",)])), "run")
        self.assertEqual([[item[2] for item in run.looks()] for run in runs], [["ahead", "behind"]])
        self.assertEqual(live.parts(), [(0, "behind")])

    def test_a_deed_that_is_not_open(self):
        live = Live(free_host([Put("b", 1)]))
        for value in ["none", "h", *WRONG_NAMES, *no_strings()]:
            live.state = (0, 0)
            self.assert_raised(NotOpen, value, lambda: call_with(live, "ahead", print, "run", value, "other"))
            self.assertEqual([live.parts(), live.state], [[], (0, 1)])

    def test_no_ranks(self):
        live = Live(free_host([Put("b", 1)]))
        for value in no_ranks():
            self.assert_raised(InvalidRank, value, lambda: call_with(live, value, print, "run"))
            self.assert_raised(InvalidRank, value, lambda: call_with(live, value, print, "none"))
        self.assertEqual([live.parts(), live.state, live.add("ahead", print)], [[], (0, 0), 0])


class TestRunScript(Asserts):
    def test_a_row_for_each_visit_at_each_rank(self):
        host = free_host([Fire("h"), Fire("h")], [Do("core")])
        script = Script([("look",)], [], [("look",), ("look",)], [("lend", "b", 1)], [("inner",), ("look",)])
        run = run_script(host, "run", (1, 0), script)
        self.assertEqual([(item[2], item[3]) for item in run.looks()], [
            ("ahead", (1, 0)), ("behind", (1, 0)), ("behind", (1, 0)), ("around", (1, 1)),
        ])
        self.assertEqual([item[0] for item in run.trace()].count("visited"), 6)
        self.assertEqual([run.deed, run.begin, run.way, run.state], ["run", (1, 0), "well", (1, 1)])

    def test_any_deed_open_or_not(self):
        host = Host(Boxes({"a": 2}), (0,), [("shut", [Do("x")]), ("wide", [])], {}, ["wide"], [])
        for deed in ["shut", "wide"]:
            for state in [(0,), (1,)]:
                run = run_script(host, deed, state, Script())
                self.assertEqual([run.deed, run.begin, run.way, run.state], [deed, state, "well", state])

    def test_nothing_else_is_changed(self):
        host, script = pay_host(), Script([("door", "pay")], [("look",)])
        one, other = [run_script(host, "pay", (0, 0), script) for _ in range(2)]
        self.assertEqual([one.trace(), host, script], [other.trace(), pay_host(), Script([("door", "pay")], [("look",)])])

    def test_by_name(self):
        run = run_script(script=Script(), state=(1, 1), deed="pay", host=pay_host())
        self.assertEqual(run.trace(), run_script(pay_host(), "pay", (1, 1), Script()).trace())

    def test_the_example_of_the_interface(self):
        boxes = pay_boxes()
        pay = [Put("busy", 1), Fire("check"), Do("charge"), Put("paid", 1), Put("busy", 0)]
        host = Host(boxes, (0, 0), [("pay", pay)], {"check": []}, ["pay"], [("check", "ahead", "door", "pay")])
        run = run_script(host, "pay", (0, 0), Script([("door", "pay"), ("look",)]))
        told = [run.way, run.state, run.looks(), [item[1] for item in run.doings() if item[0] == "did"]]
        self.assertEqual(told, ["well", (0, 1), [("looked", "check", "ahead", (0, 1))], ["charge", "charge"]])

    @unittest.skipUnless(DOC.exists(), "the document is not there")
    def test_the_example_as_it_stands_in_the_document(self):
        stage = DOC.read_text(encoding="utf-8").split("## Stage 3: interface")[1].split("## Stage 4")[0]
        rows = stage.split("```")[1]
        test = doctest.DocTestParser().get_doctest(rows, {"boxes": pay_boxes()}, "stage 3", None, 0)
        self.assertGreater(len(test.examples), 5)
        told = []
        failed = doctest.DocTestRunner(verbose=False).run(test, out=told.append)
        self.assertEqual([failed.failed, told], [0, []])


class TestRunParts(Asserts):
    def test_no_parts(self):
        host = free_host([Fire("h")], [Do("core")])
        for parts in [[], ()]:
            self.assertEqual(run_parts(host, "run", (0, 0), parts).trace(), Live(host).call("run").trace())

    def test_each_part_takes_rows_of_its_own(self):
        host = free_host([Fire("h"), Fire("h")], [Do("core")])
        look = Script([("look",)], [], [("look",)])
        run = run_parts(host, "run", (0, 0), [("behind", look), ("ahead", look), ("ahead", Script([], [("lend", "b", 1)]))])
        self.assertEqual([item[2:] for item in run.looks()], [("ahead", (0, 0)), ("behind", (0, 0))])
        self.assertEqual([item[2] for item in run.trace() if item[0] == "visited"], ["ahead", "ahead", "behind"] * 2)
        self.assertEqual(run.state, (0, 1))

    def test_in_the_sequence_in_which_they_stand(self):
        host = free_host([Fire("h")])
        parts = [("ahead", Script([("lend", "b", 1), ("look",)])), ("ahead", Script([("look",), ("lend", "b", 2)]))]
        self.assertEqual([item[3] for item in run_parts(host, "run", (0, 0), parts).looks()], [(0, 1), (0, 1)])
        self.assertEqual([item[3] for item in run_parts(host, "run", (0, 0), parts[::-1]).looks()], [(0, 0), (0, 1)])

    def test_one_part_at_each_rank_is_not_one_script(self):
        host = free_host([Fire("h")])
        script = Script([("look",)])
        self.assertEqual(len(run_parts(host, "run", (0, 0), [(rank, script) for rank in RANKS]).looks()), 3)
        self.assertEqual(len(run_script(host, "run", (0, 0), script).looks()), 1)

    def test_by_name(self):
        run = run_parts(parts=(("ahead", Script()),), state=(1, 1), deed="pay", host=pay_host())
        self.assertEqual([run.deed, run.begin, run.trace()[2]], ["pay", (1, 1), ("visited", "check", "ahead")])

    def test_no_parts_of_all_kinds(self):
        right = ("ahead", Script())
        wrong = [right, None, 0, "", {}, {"ahead": Script()}, ["ahead"], [Script()], [["ahead", Script()]], [right, None]]
        wrong += [[right[:1]], [right + (0,)], [(Script(), "ahead")], [("ahead", [])], [("ahead", None)], [right, ("x", Script())]]
        wrong += [iter([right]), {right[0]}, [()], [[]], [None, right], (right, "x"), [("ahead", [("look",)])]]
        wrong += [[(rank, Script())] for rank in no_ranks()] + [[("ahead", value)] for value in odd_values()]
        for value in [*wrong, *odd_values()]:
            for call in [run_parts, as_one]:
                self.assert_raised(InvalidParts, value, lambda: call(pay_host(), "pay", (0, 0), value))


class TestAsOne(Asserts):
    HOST = free_host([Fire("h")], FAILING)
    WELL = free_host([Fire("h")], [Do("core")])

    def rows(self, *parts, host=HOST):
        """The rows of the script for one run with these parts, tuples of a rank and rows."""
        told = as_one(host, "run", (0, 0), [(rank, Script(*rows)) for rank, *rows in parts])
        self.assertIsInstance(told, Script)
        run = run_parts(host, "run", (0, 0), [(rank, Script(*rows)) for rank, *rows in parts])
        self.assertEqual(run_script(host, "run", (0, 0), told).sequence(), run.sequence())
        return told.rows()

    def test_a_row_for_each_rank_that_a_firing_comes_to(self):
        self.assertEqual(self.rows(host=self.WELL), [[], [("inner",)], []])
        self.assertEqual(self.rows(), [[], [("inner",)]])
        self.assertEqual(self.rows(("ahead", [("answer",)])), [[("answer",)]])
        self.assertEqual(self.rows(("ahead", [("fail",)])), [[("fail",)]])
        self.assertEqual(self.rows(("around", [("fail",)])), [[], [("fail",)]])
        self.assertEqual(self.rows(("behind", [("fail",)]), host=self.WELL), [[], [("inner",)], [("fail",)]])
        self.assertEqual(self.rows(host=free_host([Do("x")])), [])
        self.assertEqual(self.rows(host=free_host([Fire("h"), Fire("h")])), [[], [("inner",)], []] * 2)

    def test_acts_that_were_let_in_sequence(self):
        some = [("look",), ("lend", "b", 1), ("lend", "a", 3), ("lend", "none", 0), ("skip",), ("inner",), ("door", "none")]
        self.assertEqual(self.rows(("ahead", some), ("ahead", [("look",)]), ("behind", some[:3]), host=self.WELL),
                         [[("look",), ("lend", "b", 1), ("look",)], [("inner",)], [("look",), ("lend", "b", 1)]])
        self.assertEqual(self.rows(("behind", [("answer",), ("look",)], []), host=self.WELL), [[], [("inner",)], [("look",)]])
        bare = self.WELL - self.WELL.powers()
        acts = [("lend", "b", 1), ("door", "run"), ("fail",), ("answer",), ("skip",), ("swallow",), ("look",), ("inner",), ("inner",)]
        self.assertEqual(self.rows(*[(rank, acts) for rank in RANKS], host=bare), [[("look",)], [("look",), ("inner",)], [("look",)]])

    def test_the_core_that_comes_without_an_act(self):
        self.assertEqual(self.rows(("around", [("look",)]))[1], [("look",), ("inner",)])
        self.assertEqual(self.rows(("around", []), ("around", []))[1], [("inner",)])
        self.assertEqual(self.rows(("around", [("look",)]), ("around", [("lend", "b", 1)]))[1],
                         [("look",), ("lend", "b", 1), ("inner",)])

    def test_several_parts_around(self):
        one, two = [("look",), ("inner",), ("lend", "b", 1)], [("lend", "b", 2), ("inner",), ("look",)]
        self.assertEqual(self.rows(("around", one), ("around", two))[1],
                         [("look",), ("lend", "b", 2), ("inner",), ("look",), ("lend", "b", 1)])
        twice = [("inner",), ("look",), ("inner",)]
        self.assertEqual(self.rows(("around", twice), ("around", [], twice), host=self.WELL)[1],
                         [("inner",), ("look",), ("inner",), ("look",), ("inner",)])

    def test_swallowed_at_once(self):
        self.assertEqual(self.rows(("around", [("swallow",)])), [[], [("swallow",)], []])
        self.assertEqual(self.rows(("around", [("swallow",), ("swallow",)])), [[], [("swallow",), ("swallow",)], []])
        self.assertEqual(self.rows(("around", [("swallow",), ("inner",)])), [[], [("swallow",), ("inner",)]])
        self.assertEqual(self.rows(("around", [("inner",), ("swallow",)])), [[], [("inner",), ("swallow",)]])

    def test_swallowed_later(self):
        swallow, inner = [("swallow",)], [("inner",)]
        self.assertEqual(self.rows(("around", swallow), ("around", inner)), [[], [("swallow",)], []])
        self.assertEqual(self.rows(("around", swallow), ("around", [])), [[], [("swallow",)], []])
        self.assertEqual(self.rows(("around", swallow), ("around", []), ("around", inner)), [[], [("swallow",)], []])
        self.assertEqual(self.rows(("around", swallow), ("around", [("inner",), ("look",), ("inner",)])),
                         [[], [("swallow",), ("look",), ("swallow",)], []])
        self.assertEqual(self.rows(("around", [("swallow",), ("inner",)]), ("around", [("inner",), ("inner",)], [("inner",)])),
                         [[], [("swallow",), ("swallow",), ("inner",)]])
        self.assertEqual(self.rows(("around", [("inner",), ("swallow",)]), ("around", inner, inner)),
                         [[], [("inner",), ("swallow",)]])

    def test_what_ended_well_is_an_inner_also_by_a_swallow(self):
        self.assertEqual(self.rows(("around", [("swallow",), ("look",)]), host=self.WELL)[1], [("inner",), ("look",)])
        first_fails = free_host([Fire("h")], [If("b", 0, [Put("b", 1), Fail()])])
        twice = [("swallow",), ("swallow",)]
        self.assertEqual(self.rows(("around", twice), host=first_fails)[1], [("swallow",), ("inner",)])
        # The visit within fails by its first inner, which is swallowed around it.
        self.assertEqual(self.rows(("around", [("swallow",)]), ("around", [("inner",), ("inner",)]), host=first_fails)[1],
                         [("swallow",), ("inner",)])

    def test_a_core_that_did_not_come(self):
        self.assertEqual(self.rows(("around", [("skip",)])), [[], [("skip",)], []])
        self.assertEqual(self.rows(("around", [("look",), ("skip",), ("look",)])), [[], [("look",), ("skip",)], []])
        self.assertEqual(self.rows(("around", [("inner",), ("look",)]), ("around", [("lend", "b", 1), ("skip",)])),
                         [[], [("lend", "b", 1), ("look",), ("skip",)], []])
        self.assertEqual(self.rows(("around", [("inner",), ("fail",)]), ("around", [("skip",)])), [[], [("fail",)]])
        self.assertEqual(self.rows(("around", [("inner",), ("skip",)]), host=self.WELL), [[], [("inner",)], []])
        self.assertEqual(self.rows(("around", [("inner",), ("inner",)]), ("around", [("skip",)], []), host=self.WELL),
                         [[], [("inner",)], []])

    def test_a_fail_behind_a_core(self):
        self.assertEqual(self.rows(("around", [("inner",), ("fail",)]), host=self.WELL), [[], [("inner",), ("fail",)]])
        self.assertEqual(self.rows(("around", [("swallow",), ("fail",)])), [[], [("swallow",), ("fail",)]])
        self.assertEqual(self.rows(("around", [("swallow",)]), ("around", [("inner",), ("fail",)])), [[], [("inner",), ("fail",)]])

    def test_doors(self):
        self.assertEqual(self.rows(("ahead", [("door", "run"), ("look",)], [("lend", "b", 1)]), host=self.WELL), [
            [("door", "run"), ("look",)], [("lend", "b", 1)], [("inner",)], [], [("inner",)], [],
        ])
        self.assertEqual(self.rows(("around", [("inner",), ("door", "run")], [("skip",)], []), host=self.WELL), [
            [], [("inner",), ("door", "run")], [], [("skip",)], [], [],
        ])
        # The swallow around the door has nothing to do with the core within it.
        self.assertEqual(self.rows(("around", [("swallow",)]), ("around", [("inner",), ("door", "run")], []), host=self.HOST), [
            [], [("swallow",), ("door", "run")], [], [("inner",)], [],
        ])

    def test_by_name(self):
        self.assertEqual(as_one(parts=[], state=(0, 0), deed="run", host=self.WELL), Script([], [("inner",)], []))


class TestPlayAll(Asserts):
    def test_calls_from_state_to_state(self):
        host = free_host([If("b", 0, [Put("b", 1)], [Put("b", 2)]), Fire("h")], [], [("more", [Put("a", 1)])], (1, 0))
        runs = play_all(host, Play(["run", "run", "more"], Script()))
        self.assertEqual([(run.deed, run.begin, run.way, run.state) for run in runs], [
            ("run", (1, 0), "well", (1, 1)), ("run", (1, 1), "well", (1, 2)), ("more", (1, 2), "well", (1, 2)),
        ])
        self.assertEqual(play_all(host, Play([], Script([("look",)]))), [])

    def test_rows_go_on_from_call_to_call(self):
        host = free_host([Fire("h")])
        rows = [[("look",)], [], [("look",), ("look",)], [], [("look",)]]
        runs = play_all(host, Play(["run"] * 3, Script(*rows)))
        self.assertEqual([[item[2] for item in run.looks()] for run in runs], [["ahead", "behind", "behind"], ["around"], []])

    def test_a_play_is_not_used_up(self):
        host, play = pay_host(), Play(["pay", "pay"], Script([("door", "pay"), ("look",)]))
        told = [[run.trace() for run in play_all(host=host, play=play)] for _ in range(2)]
        self.assertEqual(told[0], told[1])
        self.assertEqual([run.__class__ for run in play_all(host, play)], [Run, Run])

    def test_no_plays(self):
        host = Host(Boxes({"a": 2}), (0,), [("shut", []), ("wide", [])], {}, ["wide"], [])
        wrong = [Play(["shut"], Script()), Play(["wide", "shut"], Script()), Play(["none"], Script()), Script(), ["wide"]]
        for value in [*wrong, 0, "", Play, *odd_values(), *containers()]:
            self.assert_raised(InvalidPlay, value, lambda: play_all(host, value))
        self.assertEqual(len(play_all(host, Play(["wide", "wide"], Script()))), 2)

    def test_no_hosts(self):
        for value in no_hosts():
            self.assert_raised(InvalidHost, value, lambda: play_all(value, Play([], Script())))
            self.assert_raised(InvalidHost, value, lambda: play_all(value, None))


class TestErrors(Asserts):
    def test_in_the_sequence_of_the_parameters(self):
        for call, error in [(run_script, InvalidScript), (run_parts, InvalidParts), (as_one, InvalidParts)]:
            right = [pay_host(), "pay", (0, 0), Script() if call is run_script else []]
            wrong = [(InvalidHost, None), (UnknownDeed, "none"), (InvalidState, (0,)), (error, 7)]
            call(*right)
            for at, (kind, value) in enumerate(wrong):
                for more in range(2 ** (3 - at)):
                    passed = [*right[:at], value]
                    passed += [wrong[place][1] if more >> (place - at - 1) & 1 else right[place] for place in range(at + 1, 4)]
                    self.assert_raised(kind, value, lambda: call(*passed))

    def test_all_kinds_of_values(self):
        for call, last in [(run_script, Script()), (run_parts, []), (as_one, [])]:
            for value in no_hosts():
                self.assert_raised(InvalidHost, value, lambda: call(value, "pay", (0, 0), last))
            for value in ["check", "busy", "none", *WRONG_NAMES, *no_strings(), ("pay",), AlwaysEqual()]:
                self.assert_raised(UnknownDeed, value, lambda: call(pay_host(), value, (0, 0), last))
            for value in [(0,), (0, 2), [0, 0], (0, True), "busy=0 paid=0", 0, *odd_values(), *containers()]:
                self.assert_raised(InvalidState, value, lambda: call(pay_host(), "pay", value, last))
        for value in [[], [[]], 0, "", Script, Play([], Script()), *odd_values(), *containers()]:
            self.assert_raised(InvalidScript, value, lambda: run_script(pay_host(), "pay", (0, 0), value))


class TestOverview(unittest.TestCase):
    """The example of promise [1]."""

    def test_a_part_that_calls_again(self):
        run = run_script(pay_host(), "pay", (0, 0), Script([("door", "pay"), ("look",)]))
        self.assertEqual([item[3] for item in run.looks()], [(0, 1)])
        # It sees this ahead of the step of the outer run, which is the last one.
        behind = run.trace()[run.trace().index(run.looks()[0]):]
        self.assertEqual(behind.count(("did", "charge")), 1)

    def test_without_the_power(self):
        host = pay_host() - [("check", "ahead", "door", "pay")]
        looks = Script([("look",), ("door", "pay"), ("look",)], [("look",)], [("look",)])
        for state in host.boxes.states():
            run = run_script(host, "pay", state, looks)
            self.assertEqual([item[3][0] for item in run.looks()], [1] * 4)
            self.assertEqual(run.doings().count(("did", "charge")), 1)

    def test_again(self):
        host = pay_host([("check", "around", "again", "")], [Do("test")])
        run = run_script(host, "pay", (0, 0), Script([], [("inner",), ("inner",)]))
        self.assertEqual(run.doings().count(("did", "test")), 2)
