"""Promises [2], [3], [31], [32] and [34]: acts, firings and runs of a Live."""

import unittest

from hookvows.boxes import Boxes
from hookvows.errors import InvalidHost, InvalidRank, InvalidScript, InvalidState, NotOpen, UnknownPart
from hookvows.hosts import RANKS, Host
from hookvows.live import Driver, Live, Run, Visit, run_script
from hookvows.scripts import Play, Script
from hookvows.statements import Call, Do, Fail, Fire, Guard, If, Last, Put
from tests.sample_hosts import free_host, nested_host, pay_boxes, pay_host
from tests.samples import RIGHT_NAMES, WRONG_NAMES, AlwaysEqual, containers, no_integers, no_strings, odd_values

PLAIN = [("look",), ("inner",), ("swallow",), ("answer",), ("skip",), ("fail",)]
VISITS = [("visited", "h", rank) for rank in RANKS]


def fire_host(powers, core=(Do("core"),), further=()):
    """A host whose deed run fires the hook h once, with steps around this, and these powers."""
    body = [Do("ahead"), Fire("h"), Do("behind")]
    deeds = [("run", body), ("bad", [Put("b", 2), Fail()]), ("good", [Put("b", 1)]), *further]
    powers = [("h", *power) for power in powers]
    return Host(Boxes({"a": 2, "b": 3}), (0, 0), deeds, {"h": core}, ["run", "good"], powers)


def acting(host, *ranked):
    """A Live with parts, tuples of a rank and an action."""
    live = Live(host)
    for rank, action in ranked:
        live.add(rank, action)
    return live


def words(items):
    """The first and the last word of each item, shortly."""
    return [f"{item[0]} {item[-1]}" for item in items]


def acts_of(*rows):
    """A Driver of these rows."""
    return Driver(Script(*rows))


class TestLetOrNot(unittest.TestCase):
    """Each act at each rank, with each power."""

    def told(self, rank, powers, act, core=(Do("core"),)):
        """What a part at the rank is told that does this act once, and the run."""
        answers = []

        def action(visit):
            answers.append(getattr(visit, act[0])(*act[1:]))

        run = acting(fire_host(powers, core), (rank, action)).call("run")
        self.assertEqual(len(answers), 1)
        # A script does the same.
        ranks = RANKS[:RANKS.index(rank)]
        script = Script(*[[] for _ in ranks], [act])
        scripted = run_script(fire_host(powers, core), "run", (0, 0), script)
        self.assertEqual(scripted.sequence(), run.sequence())
        self.assertEqual([scripted.way, scripted.state], [run.way, run.state])
        return answers[0], run

    def bare(self, core=(Do("core"),)):
        return Live(fire_host([], core)).call("run")

    def test_look_is_always_let(self):
        for rank in RANKS:
            answer, run = self.told(rank, [], ("look",))
            self.assertEqual(answer, (0, 0))
            self.assertEqual(run.looks(), [("looked", "h", rank, (0, 0))])
            self.assertEqual(run.doings(), self.bare().doings())

    def test_lend(self):
        for rank in RANKS:
            answer, run = self.told(rank, [(rank, "lend", "b")], ("lend", "b", 2))
            self.assertEqual([answer, run.state], [True, (0, 2)])
            for powers in [[], [(rank, "lend", "a")], [(rank, "door", "good"), (rank, "fail", "")],
                           [(other, "lend", "b") for other in RANKS if other != rank]]:
                answer, run = self.told(rank, powers, ("lend", "b", 2))
                self.assertEqual([answer, run.state, run.doings()], [False, (0, 0), self.bare().doings()])

    def test_lend_of_a_value_that_the_box_does_not_have(self):
        for rank in RANKS:
            powers = [(rank, "lend", "a"), (rank, "lend", "b")]
            for box, value, let in [("a", 0, True), ("a", 1, True), ("a", 2, False), ("a", 3, False), ("b", 2, True),
                                    ("b", 3, False), ("none", 0, False), ("h", 0, False), ("run", 0, False)]:
                answer, run = self.told(rank, powers, ("lend", box, value))
                self.assertIs(answer, let)
                self.assertEqual(run.state, ((value, 0) if box == "a" else (0, value)) if let else (0, 0))

    def test_door(self):
        for rank in RANKS:
            answer, run = self.told(rank, [(rank, "door", "good")], ("door", "good"))
            self.assertEqual([answer, run.way, run.state], ["well", "well", (0, 1)])
            self.assertEqual(run.doings().count(("called", "good")), 1)
            self.assertIn(("ended", "good", "well", (0, 1)), run.doings())
            for powers in [[], [(rank, "door", "bad")], [(rank, "lend", "b")], [("ahead" if rank != "ahead" else "around",
                                                                                 "door", "good")]]:
                answer, run = self.told(rank, powers, ("door", "good"))
                self.assertEqual([answer, run.doings()], [None, self.bare().doings()])

    def test_a_failure_of_a_door_ends_there(self):
        for rank in RANKS:
            # The deed bad is not open: a door leads to it nevertheless.
            answer, run = self.told(rank, [(rank, "door", "bad")], ("door", "bad"))
            self.assertEqual([answer, run.way, run.state], ["failed", "well", (0, 2)])
            for name in ["none", "h", "a"]:
                answer, run = self.told(rank, [(rank, "door", "bad")], ("door", name))
                self.assertEqual([answer, run.doings()], [None, self.bare().doings()])

    def test_fail(self):
        for rank in RANKS:
            answer, run = self.told(rank, [(rank, "fail", "")], ("fail",))
            cores = [("did", "core")] if rank == "behind" else []
            self.assertEqual([answer, run.way], [True, "failed"])
            self.assertEqual(run.doings()[1:-1], [("did", "ahead"), ("fired", "h"), *cores])
            for powers in [[], [(other, "fail", "") for other in RANKS if other != rank]]:
                answer, run = self.told(rank, powers, ("fail",))
                self.assertEqual([answer, run.doings()], [False, self.bare().doings()])

    def test_answer(self):
        answer, run = self.told("ahead", [("ahead", "answer", "")], ("answer",))
        self.assertEqual([answer, run.way], [True, "well"])
        self.assertEqual(words(run.trace()), ["called run", "did ahead", "fired h", "visited ahead", "did behind", "ended (0, 0)"])
        answer, run = self.told("ahead", [("ahead", "fail", ""), ("ahead", "door", "good")], ("answer",))
        self.assertEqual([answer, run.doings()], [False, self.bare().doings()])
        for rank in ["around", "behind"]:
            everything = [power[1:] for power in fire_host([]).all_powers()]
            answer, run = self.told(rank, everything, ("answer",))
            self.assertEqual([answer, run.doings()], [False, self.bare().doings()])

    def test_skip(self):
        answer, run = self.told("around", [("around", "skip", "")], ("skip",))
        self.assertEqual([answer, run.way], [True, "well"])
        self.assertEqual(words(run.trace()), ["called run", "did ahead", "fired h", "visited around", "did behind", "ended (0, 0)"])
        answer, run = self.told("around", [("around", "again", ""), ("around", "swallow", "")], ("skip",))
        self.assertEqual([answer, run.doings()], [False, self.bare().doings()])
        for rank in ["ahead", "behind"]:
            everything = [power[1:] for power in fire_host([]).all_powers()]
            answer, run = self.told(rank, everything, ("skip",))
            self.assertEqual([answer, run.doings()], [False, self.bare().doings()])

    def test_inner(self):
        for core, way in [([Do("core")], "well"), ([Do("core"), Fail()], "failed")]:
            answer, run = self.told("around", [], ("inner",), core)
            self.assertEqual([answer, run.way, run.doings()], [way, way, self.bare(core).doings()])
        for rank in ["ahead", "behind"]:
            everything = [power[1:] for power in fire_host([]).all_powers()]
            answer, run = self.told(rank, everything, ("inner",))
            self.assertEqual([answer, run.doings()], [None, self.bare().doings()])

    def test_swallow(self):
        core = [Do("core"), Fail()]
        answer, run = self.told("around", [("around", "swallow", "")], ("swallow",), core)
        self.assertEqual([answer, run.way], ["failed", "well"])
        self.assertEqual(run.doings().count(("did", "core")), 1)
        answer, run = self.told("around", [("around", "swallow", "")], ("swallow",))
        self.assertEqual([answer, run.way], ["well", "well"])
        answer, run = self.told("around", [("around", "again", ""), ("around", "skip", "")], ("swallow",), core)
        self.assertEqual([answer, run.doings()], [None, self.bare(core).doings()])
        for rank in ["ahead", "behind"]:
            everything = [power[1:] for power in fire_host([]).all_powers()]
            answer, run = self.told(rank, everything, ("swallow",))
            self.assertEqual([answer, run.doings()], [None, self.bare().doings()])

    def test_what_is_within_comes_again(self):
        again, swallow = ("around", "again", ""), ("around", "swallow", "")
        # The acts, the powers, how often the core comes, and the way of the run if the core fails.
        for acts, powers, many, way in [
            (["inner", "inner"], [again], 2, "failed"), (["inner", "inner"], [], 1, "failed"),
            (["inner", "inner", "inner"], [again], 3, "failed"), (["inner", "swallow"], [again, swallow], 2, "failed"),
            (["inner", "swallow"], [swallow], 1, "failed"), (["inner", "swallow"], [again], 1, "failed"),
            (["swallow", "swallow"], [again, swallow], 2, "well"), (["swallow", "swallow"], [swallow], 1, "well"),
            (["swallow", "inner"], [again, swallow], 2, "failed"), (["swallow", "inner"], [swallow], 1, "well"),
            (["swallow", "inner"], [again], 1, "failed"), (["swallow", "swallow"], [again], 1, "failed"),
            (["swallow", "swallow", "swallow"], [again, swallow], 3, "well"), ([], [again, swallow], 1, "failed"),
        ]:
            for core, ways in [([Do("core"), Fail()], way), ([Do("core")], "well")]:
                run = acting(fire_host(powers, core), ("around", acts_of([(word,) for word in acts]))).call("run")
                self.assertEqual([run.doings().count(("did", "core")), run.way], [many, ways], (acts, powers))

    def test_only_powers_of_this_hook(self):
        for verb, name, act in [("lend", "b", ("lend", "b", 1)), ("door", "good", ("door", "good")), ("fail", "", ("fail",)),
                                ("skip", "", ("skip",)), ("swallow", "", ("swallow",))]:
            hooks = {"h": [Do("core"), Fail()], "g": [Do("core"), Fail()]}
            deeds = [("run", [Guard([Fire("h")]), Guard([Fire("g")])]), ("good", [Do("good")])]
            host = Host(Boxes({"a": 2, "b": 3}), (0, 0), deeds, hooks, ["run"], [("g", "around", verb, name)])
            told = []
            acting(host, ("around", lambda visit: told.append(getattr(visit, act[0])(*act[1:])))).call("run")
            self.assertIn(told[0], [None, False], act)
            self.assertNotIn(told[1], [None, False], act)


class TestAnyValues(unittest.TestCase):
    def each_told(self, call):
        told = []
        host = free_host([Fire("h")], [], [("good", [Put("b", 1)])])
        for rank in RANKS:
            run = acting(host, (rank, lambda visit: told.append(call(visit)))).call("run")
            self.assertEqual(run.state, (0, 0))
        return told

    def test_lend(self):
        for value in [2, 3, 4, -1, 10 ** 29, *no_integers()]:
            self.assertEqual(self.each_told(lambda visit: visit.lend("a", value)), [False] * 3)
        for box in ["c", "h", "run", "none", *WRONG_NAMES, *no_strings(), AlwaysEqual()]:
            self.assertEqual(self.each_told(lambda visit: visit.lend(box, 0)), [False] * 3)
        self.assertEqual(self.each_told(lambda visit: visit.lend(None, None)), [False] * 3)

    def test_door(self):
        for deed in ["none", "h", "a", *WRONG_NAMES, *no_strings(), AlwaysEqual()]:
            self.assertEqual(self.each_told(lambda visit: visit.door(deed)), [None] * 3)

    def test_by_name(self):
        self.assertEqual(self.each_told(lambda visit: visit.lend(value=0, box="b")), [True] * 3)
        self.assertEqual(self.each_told(lambda visit: visit.door(deed="nothing")), [None] * 3)


class TestFiring(unittest.TestCase):
    def noting(self, told, name, *acts):
        """An action that notes when it begins and when it has done its acts."""
        def action(visit):
            told.append(name)
            for act in acts:
                getattr(visit, act[0])(*act[1:])
            told.append(name + ".")
        return action

    def test_no_parts(self):
        run = Live(fire_host([])).call("run")
        self.assertEqual(run.trace(), [
            ("called", "run"), ("did", "ahead"), ("fired", "h"), ("did", "core"), ("did", "behind"),
            ("ended", "run", "well", (0, 0)),
        ])
        run = Live(fire_host([], [Do("core"), Fail()])).call("run")
        self.assertEqual(run.trace(), [
            ("called", "run"), ("did", "ahead"), ("fired", "h"), ("did", "core"), ("ended", "run", "failed", (0, 0)),
        ])

    def test_parts_at_all_ranks(self):
        told = []
        live = acting(fire_host([]), *[(rank, self.noting(told, rank)) for rank in RANKS[::-1]])
        run = live.call("run")
        self.assertEqual(told, ["ahead", "ahead.", "around", "around.", "behind", "behind."])
        self.assertEqual(run.trace(), [
            ("called", "run"), ("did", "ahead"), ("fired", "h"), *VISITS[:2], ("did", "core"), VISITS[2], ("did", "behind"),
            ("ended", "run", "well", (0, 0)),
        ])

    def test_the_core_comes_behind_the_acts_without_inner(self):
        told = []
        live = acting(fire_host([("around", "lend", "b")], [If("b", 1, [Do("lent")])]),
                      ("around", self.noting(told, "x", ("lend", "b", 1), ("look",))))
        self.assertEqual(words(live.call("run").trace())[3:6], ["visited around", "looked (0, 1)", "did lent"])

    def test_acts_around_an_inner(self):
        host = fire_host([("around", "lend", "b")], [If("b", 1, [Do("lent")], [Do("not")])])
        for acts, wanted in [([("inner",), ("lend", "b", 1), ("look",)], ["did not", "looked (0, 1)"]),
                             ([("lend", "b", 1), ("inner",), ("look",)], ["did lent", "looked (0, 1)"]),
                             ([("look",), ("lend", "b", 1)], ["looked (0, 0)", "did lent"])]:
            run = acting(host, ("around", acts_of(acts))).call("run")
            self.assertEqual(words(run.trace())[4:6], wanted)

    def test_several_parts_ahead_and_behind(self):
        told = []
        ranked = [(rank, self.noting(told, f"{rank} {at}")) for at in range(3) for rank in ["behind", "ahead"]]
        acting(fire_host([]), *ranked).call("run")
        wanted = [f"{rank} {at}{end}" for rank in ["ahead", "behind"] for at in range(3) for end in ["", "."]]
        self.assertEqual(told, wanted)

    def test_several_parts_around_are_within_one_another(self):
        told = []
        ranked = [("around", self.noting(told, f"{at}", ("inner",))) for at in range(3)]
        run = acting(fire_host([]), *ranked).call("run")
        self.assertEqual(told, ["0", "1", "2", "2.", "1.", "0."])
        self.assertEqual(words(run.trace())[3:7], ["visited around"] * 3 + ["did core"])
        # Without an act, what is within comes behind the acts.
        told.clear()
        ranked = [("around", self.noting(told, f"{at}")) for at in range(3)]
        acting(fire_host([]), *ranked).call("run")
        self.assertEqual(told, ["0", "0.", "1", "1.", "2", "2."])

    def test_each_part_around_has_its_own_again(self):
        host = fire_host([("around", "again", "")])
        twice = [("inner",), ("inner",)]
        for many in range(4):
            drivers = [("around", lambda visit: [visit.inner(), visit.inner()]) for _ in range(many)]
            run = acting(host, *drivers).call("run")
            self.assertEqual(run.doings().count(("did", "core")), 2 ** many)
            self.assertEqual(run.trace().count(VISITS[1]), 2 ** many - 1)
        run = acting(host, ("around", acts_of(twice)), ("around", acts_of([], twice))).call("run")
        self.assertEqual(run.doings().count(("did", "core")), 3)

    def test_an_answer_leaves_out_all_else(self):
        told = []
        host = fire_host([("ahead", "answer", "")], [Do("core"), Fail()])
        live = acting(host, ("ahead", self.noting(told, "a")), ("ahead", self.noting(told, "b", ("answer",))),
                      ("ahead", self.noting(told, "c")), ("around", self.noting(told, "d")), ("behind", self.noting(told, "e")))
        run = live.call("run")
        self.assertEqual([told, run.way], [["a", "a.", "b", "b."], "well"])
        self.assertEqual(run.doings()[-2], ("did", "behind"))

    def test_a_fail_ahead_leaves_out_all_else(self):
        told = []
        host = fire_host([("ahead", "fail", "")])
        live = acting(host, ("ahead", self.noting(told, "a", ("fail",))), ("ahead", self.noting(told, "b")),
                      ("around", self.noting(told, "c")), ("behind", self.noting(told, "d")))
        self.assertEqual([live.call("run").way, told], ["failed", ["a", "a."]])

    def test_a_fail_around_ends_the_firing_whatever_is_around(self):
        powers = [("around", verb, "") for verb in ["swallow", "fail", "again", "skip"]]
        told, ways = [], []

        def outer(visit):
            ways.append(visit.swallow())
            ways.append(visit.look())
            ways.append(visit.inner())

        live = acting(fire_host(powers), ("around", outer), ("around", lambda visit: ways.append(visit.inner())),
                      ("around", self.noting(told, "c", ("fail",))), ("behind", self.noting(told, "d")))
        run = live.call("run")
        self.assertEqual([run.way, told, ways], ["failed", ["c", "c."], [None, None, None, None]])
        self.assertEqual(words(run.trace()), ["called run", "did ahead", "fired h", *["visited around"] * 3, "ended (0, 0)"])

    def test_a_fail_behind(self):
        told = []
        host = fire_host([("behind", "fail", ""), ("around", "swallow", "")])
        live = acting(host, ("around", acts_of([("swallow",)])), ("behind", self.noting(told, "a", ("fail",), ("look",))),
                      ("behind", self.noting(told, "b")))
        run = live.call("run")
        self.assertEqual([run.way, told, run.looks()], ["failed", ["a", "a."], []])

    def test_a_failure_of_the_core_leaves_out_the_rank_behind(self):
        told = []
        core = [Do("core"), Fail()]
        for acts, way, visited in [([], "failed", []), (["inner"], "failed", []), (["swallow"], "well", ["d", "d."])]:
            told.clear()
            host = fire_host([("around", "swallow", "")], core)
            live = acting(host, ("around", acts_of([(word,) for word in acts])), ("behind", self.noting(told, "d")))
            self.assertEqual([live.call("run").way, told], [way, visited])

    def test_an_inner_that_fails_lets_the_visit_go_on(self):
        host = fire_host([("around", verb, "") for verb in ["swallow", "again", "skip"]], [If("b", 0, [Put("b", 1), Fail()])])
        for acts in [["inner"], ["inner", "look"], ["inner", "inner"], ["inner", "swallow"], ["inner", "skip"]]:
            run = acting(host, ("around", acts_of([(word,) for word in acts]))).call("run")
            self.assertEqual([run.way, run.state], ["failed", (0, 1)], acts)
        run = acting(host, ("around", acts_of([("swallow",), ("inner",)]))).call("run")
        self.assertEqual(run.way, "well")
        run = acting(host, ("around", acts_of([("inner",), ("look",)]))).call("run")
        self.assertEqual(words(run.looks()), ["looked (0, 1)"])

    def test_a_failure_is_told_to_each_visit_around(self):
        core = [Do("core"), Fail()]
        ways = []

        def swallow(visit):
            ways.append(("swallow", visit.swallow()))

        def inner(visit):
            ways.append(("inner", visit.inner()))

        host = fire_host([("around", "swallow", "")], core)
        for actions, wanted, way in [
            ([inner, inner], [("inner", "failed"), ("inner", "failed")], "failed"),
            ([swallow, inner], [("inner", "failed"), ("swallow", "failed")], "well"),
            ([inner, swallow], [("swallow", "failed"), ("inner", "well")], "well"),
            ([swallow, swallow], [("swallow", "failed"), ("swallow", "well")], "well"),
            ([swallow, lambda visit: None, inner], [("inner", "failed"), ("swallow", "failed")], "well"),
            ([lambda visit: None, lambda visit: None], [], "failed"),
        ]:
            ways.clear()
            run = acting(host, *[("around", action) for action in actions]).call("run")
            self.assertEqual([ways, run.way], [wanted, way])

    def test_a_skip_leaves_out_what_is_within(self):
        told = []
        host = fire_host([("around", "skip", ""), ("around", "again", "")])
        live = acting(host, ("around", self.noting(told, "a", ("inner",), ("look",))),
                      ("around", self.noting(told, "b", ("skip",), ("look",))), ("around", self.noting(told, "c")),
                      ("behind", self.noting(told, "d")))
        run = live.call("run")
        self.assertEqual(told, ["a", "b", "b.", "a.", "d", "d."])
        self.assertEqual([run.way, words(run.looks()), ("did", "core") in run.trace()], ["well", ["looked (0, 0)"], False])

    def test_a_skip_behind_an_inner(self):
        host = fire_host([("around", "skip", ""), ("around", "again", "")])
        run = acting(host, ("around", acts_of([("inner",), ("skip",), ("inner",), ("look",)]))).call("run")
        self.assertEqual([run.doings().count(("did", "core")), run.looks(), run.way], [1, [], "well"])

    def test_only_the_failure_of_a_core_is_swallowed(self):
        # A fail within ends the firing at once, and the failure of a door has ended at the door already.
        powers = [("around", "swallow", ""), ("around", "fail", ""), ("around", "door", "bad")]
        ways = []
        live = acting(fire_host(powers), ("around", lambda visit: ways.append(visit.swallow())),
                      ("around", lambda visit: ways.append(visit.door("bad"))))
        self.assertEqual([live.call("run").way, ways], ["well", ["failed", "well"]])

    def test_each_hook_is_visited(self):
        hooks = {"h": [], "g": [Do("g")]}
        host = Host(Boxes({"a": 2}), (0,), [("run", [Fire("g"), Fire("h"), Fire("g")])], hooks, ["run"], [])
        seen = []
        live = acting(host, *[(rank, lambda visit: seen.append((visit.hook, visit.rank))) for rank in RANKS])
        live.call("run")
        self.assertEqual(seen, [(hook, rank) for hook in "ghg" for rank in RANKS])

    def test_a_firing_within_statements(self):
        core = [Do("core"), Fail()]
        body = [Last([Guard([Fire("h"), Do("none")], [Do("guard"), Fail()])], [Do("last")])]
        host = free_host(body, core)
        self.assertEqual(words(Live(host).call("run").trace()),
                         ["called run", "fired h", "did core", "did guard", "did last", "ended (0, 0)"])
        run = acting(host, ("around", acts_of([("swallow",)]))).call("run")
        self.assertEqual([words(run.trace())[3:-1], run.way], [["did core", "did none", "did last"], "well"])


class TestStatements(unittest.TestCase):
    def ran(self, *body, first=(0, 0)):
        """The steps, the way and the state of a run of this body."""
        run = Live(free_host(list(body), [Do("core")], [], first)).call("run")
        return [item[1] for item in run.doings() if item[0] == "did"], run.way, run.state

    def test_each_kind(self):
        x, y, z = Do("x"), Do("y"), Do("z")
        for body, wanted in [
            ([], ([], "well", (0, 0))), ([x, y], (["x", "y"], "well", (0, 0))), ([x, Fail(), y], (["x"], "failed", (0, 0))),
            ([Put("b", 2), Put("a", 1)], ([], "well", (1, 2))), ([Put("b", 2), Put("b", 1)], ([], "well", (0, 1))),
            ([Fire("h"), x], (["core", "x"], "well", (0, 0))), ([If("a", 0, [x], [y])], (["x"], "well", (0, 0))),
            ([If("b", 2, [x], [y])], (["y"], "well", (0, 0))), ([If("a", 1, [x]), y], (["y"], "well", (0, 0))),
            ([Put("a", 1), If("a", 1, [x, Fail()], [y]), z], (["x"], "failed", (1, 0))),
            ([If("a", 1, [x], [Fail()]), y], ([], "failed", (0, 0))),
            ([Last([x], [y]), z], (["x", "y", "z"], "well", (0, 0))),
            ([Last([x, Fail()], [y]), z], (["x", "y"], "failed", (0, 0))),
            ([Last([x], [y, Fail()]), z], (["x", "y"], "failed", (0, 0))),
            ([Last([Fail()], [Fail(), x]), z], ([], "failed", (0, 0))), ([Last([], []), z], (["z"], "well", (0, 0))),
            ([Guard([x], [y]), z], (["x", "z"], "well", (0, 0))), ([Guard([x, Fail()], [y]), z], (["x", "y", "z"], "well", (0, 0))),
            ([Guard([x, Fail()], [y, Fail()]), z], (["x", "y"], "failed", (0, 0))),
            ([Guard([x, Fail()]), z], (["x", "z"], "well", (0, 0))), ([Guard([]), z], (["z"], "well", (0, 0))),
            ([Guard([Put("b", 2), Fail()]), If("b", 2, [x])], (["x"], "well", (0, 2))),
        ]:
            self.assertEqual(self.ran(*body), wanted, body)

    def test_within_one_another(self):
        x, y, z = Do("x"), Do("y"), Do("z")
        for body, wanted in [
            ([Last([Last([x, Fail()], [y])], [z])], (["x", "y", "z"], "failed", (0, 0))),
            ([Last([Last([x], [Fail()])], [z]), x], (["x", "z"], "failed", (0, 0))),
            ([Last([Fail()], [Last([x], [y])]), z], (["x", "y"], "failed", (0, 0))),
            ([Last([x], [Last([Fail()], [y])]), z], (["x", "y"], "failed", (0, 0))),
            ([Last([Fail()], [Guard([Fail()], [x])]), z], (["x"], "failed", (0, 0))),
            ([Guard([Last([x, Fail()], [y])], [z])], (["x", "y", "z"], "well", (0, 0))),
            ([Guard([Guard([Fail()], [x, Fail()])], [y])], (["x", "y"], "well", (0, 0))),
            ([Guard([Fail()], [Guard([Fail()], [x])]), y], (["x", "y"], "well", (0, 0))),
            ([If("a", 0, [Put("a", 1), If("a", 1, [x])], [y])], (["x"], "well", (1, 0))),
            ([Last([Put("b", 1), Fail()], [If("b", 1, [x], [y])])], (["x"], "failed", (0, 1))),
        ]:
            self.assertEqual(self.ran(*body), wanted, body)

    def test_calls(self):
        deeds = [("low", [Do("low"), If("a", 1, [Fail()])]), ("mid", [Guard([Call("low"), Do("mid")], [Do("guard")])]),
                 ("top", [Call("mid"), Put("a", 1), Call("mid"), Call("low"), Do("never")])]
        host = Host(Boxes({"a": 2}), (0,), deeds, {}, ["top"], [])
        run = Live(host).call("top")
        self.assertEqual(run.trace(), [
            ("called", "top"), ("called", "mid"), ("called", "low"), ("did", "low"), ("ended", "low", "well", (0,)),
            ("did", "mid"), ("ended", "mid", "well", (0,)), ("called", "mid"), ("called", "low"), ("did", "low"),
            ("ended", "low", "failed", (1,)), ("did", "guard"), ("ended", "mid", "well", (1,)), ("called", "low"),
            ("did", "low"), ("ended", "low", "failed", (1,)), ("ended", "top", "failed", (1,)),
        ])

    def test_deep_bodies(self):
        deep = [Do("deep"), Fail()]
        for at in range(7):
            deep = [[Guard(deep, [Fail()]), If("a", 0, deep), Last(deep, [Do("last")])][at % 3]]
        self.assertEqual(self.ran(*deep), (["deep", "last", "last"], "failed", (0, 0)))
        for many in [8, 20, 38]:
            deep = [Do("deep")]
            for _ in range(many):
                deep = [Last([], deep)]
            self.assertEqual(self.ran(*deep), (["deep"], "well", (0, 0)))


class TestDoors(unittest.TestCase):
    def test_a_door_runs_from_the_present_state(self):
        host = pay_host()
        seen = []

        def action(visit):
            if len(seen) == 0:
                seen.append(visit.look())
                seen.append(visit.door("pay"))
                seen.append(visit.look())

        run = acting(host, ("ahead", action)).call("pay")
        self.assertEqual([seen, run.way, run.state], [[(1, 0), "well", (0, 1)], "well", (0, 1)])
        self.assertEqual([item for item in run.doings() if item[0] == "did"], [("did", "charge")] * 2)

    def test_doors_within_doors(self):
        for many in [0, 1, 2, 5, 29, 30]:
            host = pay_host()
            count = []

            def action(visit):
                count.append(visit)
                if len(count) <= many:
                    self.assertEqual(visit.door("pay"), "well")

            by_function = acting(host, ("ahead", action)).call("pay")
            rows = [[("door", "pay")]] * many
            by_driver = acting(host, ("ahead", acts_of(*rows))).call("pay")
            self.assertEqual(by_function.trace(), by_driver.trace())
            self.assertEqual(by_driver.trace().count(("called", "pay")), many + 1)
            self.assertEqual(by_driver.trace()[:many * 3 + 3:3], [("called", "pay")] * (many + 1))

    def test_doors_of_several_parts_and_ranks(self):
        host = free_host([Fire("h"), Do("x")])
        many = [4]

        def action(visit):
            if many[0] > 0:
                many[0] -= 1
                visit.door("run")

        run = acting(host, *[(rank, action) for rank in RANKS for _ in range(2)]).call("run")
        self.assertEqual([run.doings().count(("called", "run")), run.way], [5, "well"])

    def test_a_visit_goes_on_while_its_part_is_visited_again(self):
        seen = []

        def action(visit):
            at = len(seen)
            seen.append(("begin", at))
            if at == 0:
                visit.door("run")
            visit.lend("b", at)
            seen.append(("end", at, visit.look()))

        run = acting(free_host([Fire("h")]), ("around", action)).call("run")
        self.assertEqual(seen, [("begin", 0), ("begin", 1), ("end", 1, (0, 1)), ("end", 0, (0, 0))])
        self.assertEqual(run.looks(), [("looked", "h", "around", (0, 1)), ("looked", "h", "around", (0, 0))])

    def test_what_ends_a_firing_in_a_door_ends_no_other_firing(self):
        for rank, word, way in [("ahead", "answer", "well"), ("ahead", "fail", "failed"), ("around", "fail", "failed"),
                                ("behind", "fail", "failed")]:
            seen = []

            def action(visit):
                seen.append(None)
                if len(seen) == 2:
                    getattr(visit, word)()
                    return
                seen.append(visit.door("run"))
                seen.append(visit.look())

            run = acting(free_host([Fire("h"), Put("a", 1)]), (rank, action)).call("run")
            state = (1, 0) if way == "well" else (0, 0)
            self.assertEqual([seen, run.way], [[None, None, way, state], "well"], (rank, word))

    def test_a_failure_in_a_door_within_an_inner_is_no_failure_of_the_core(self):
        host = free_host([Fire("h")], [If("a", 1, [Fail()])])
        drivers = [("around", acts_of([("inner",), ("look",)], [])), ("around", acts_of([("lend", "a", 1), ("door", "run"),
                                                                                         ("lend", "a", 0)], []))]
        run = acting(host, *drivers).call("run")
        self.assertEqual([run.way, run.doings()[2:4]], ["well", [("called", "run"), ("fired", "h")]])
        self.assertIn(("ended", "run", "failed", (1, 0)), run.doings())

    def test_a_failure_in_a_door_behind_an_inner_is_none_of_the_core(self):
        host = free_host([Fire("h"), Do("x")], [Do("core")], [("bad", [Do("bad"), Fail()])])
        for word in ["inner", "swallow"]:
            for act in [("door", "bad"), ("look",)]:
                run = acting(host, ("around", acts_of([(word,), act, (word,), act]))).call("run")
                self.assertEqual([run.way, run.doings().count(("did", "core"))], ["well", 2])
                self.assertEqual(run.doings().count(("did", "bad")), 2 if act[0] == "door" else 0)

    def test_many_parts_around_by_a_script(self):
        host = free_host([Fire("h"), Do("x")], [Do("core")])
        live = Live(host)
        driver = acts_of(*[[("inner",), ("look",)]] * 290)
        for _ in range(290):
            live.add("around", driver)
        run = live.call("run")
        self.assertEqual([run.way, len(run.looks()), driver.left], ["well", 290, 0])

    def test_many_parts_around_by_functions(self):
        live = acting(free_host([Fire("h"), Do("x")], [Do("core")]), *[("around", lambda visit: visit.inner())] * 250)
        run = live.call("run")
        self.assertEqual([run.way, run.trace().count(VISITS[1]), run.doings().count(("did", "core"))], ["well", 250, 1])

    def test_thirty_doors_with_parts_around_by_functions(self):
        many = [30]

        def last(visit):
            if many[0] > 0:
                many[0] -= 1
                visit.door("run")

        ranked = [("around", lambda visit: visit.inner())] * 6 + [("around", last)]
        run = acting(free_host([Fire("h")], [Do("core")]), *ranked).call("run")
        self.assertEqual([run.way, run.doings().count(("did", "core"))], ["well", 31])

    def test_scripts_go_as_deep_as_they_like(self):
        rows = [[("door", "pay")]] * 300
        run = run_script(pay_host(), "pay", (0, 0), Script(*rows))
        self.assertEqual([run.way, run.doings().count(("did", "charge"))], ["well", 301])


class TestVisits(unittest.TestCase):
    def test_what_a_visit_tells(self):
        seen = []
        live = acting(free_host([Fire("h")]), *[(rank, lambda visit: seen.append((visit.__class__, visit.hook, visit.rank)))
                                                 for rank in RANKS])
        live.call("run")
        self.assertEqual(seen, [(Visit, "h", rank) for rank in RANKS])

    def over(self, visit):
        """What all acts tell of a visit that is over."""
        return [visit.look(), visit.lend("a", 1), visit.door("run"), visit.inner(), visit.swallow(), visit.answer(),
                visit.skip(), visit.fail()]

    OVER = [None, False, None, None, None, False, False, False]

    def test_visits_are_over_behind_their_acts(self):
        for rank in RANKS:
            kept = []
            live = acting(free_host([Fire("h")]), (rank, kept.append))
            before = live.call("run")
            self.assertEqual(self.over(kept[0]), self.OVER)
            self.assertEqual([live.state, len(kept)], [(0, 0), 1])
            self.assertEqual(before.trace(), live.call("run").trace())
            self.assertEqual([(visit.hook, visit.rank) for visit in kept], [("h", rank)] * 2)

    def test_visits_are_over_behind_answer_skip_and_fail(self):
        for rank, word in [("ahead", "answer"), ("ahead", "fail"), ("around", "skip"), ("around", "fail"), ("behind", "fail")]:
            told = []

            def action(visit):
                told.append(getattr(visit, word)())
                told.append(self.over(visit))
                told.append(self.over(visit))

            run = acting(free_host([Fire("h")], [Do("core")]), (rank, action)).call("run")
            self.assertEqual([told, run.state, run.looks()], [[True, self.OVER, self.OVER], (0, 0), []])

    def test_all_visits_of_a_firing_are_over_when_it_ends(self):
        told = []

        def outer(visit):
            told.append(visit.inner())
            told.append(self.over(visit))

        run = acting(free_host([Fire("h")]), ("around", outer), ("around", lambda visit: visit.fail())).call("run")
        self.assertEqual([told, run.way, run.state], [[None, self.OVER], "failed", (0, 0)])

    def test_a_row_behind_an_act_that_ended_the_visit_is_not_done(self):
        more = [("look",), ("lend", "a", 1), ("inner",), ("fail",), ("answer",)]
        for rank, word in [("ahead", "answer"), ("ahead", "fail"), ("around", "skip"), ("around", "fail"), ("behind", "fail")]:
            run = acting(free_host([Fire("h")]), (rank, acts_of([(word,), *more]))).call("run")
            self.assertEqual([run.looks(), run.state, run.way], [[], (0, 0), "failed" if word == "fail" else "well"])

    def test_an_act_that_is_not_let_does_not_end_a_visit(self):
        host = fire_host([])
        for rank in RANKS:
            acts = [("fail",), ("answer",), ("skip",), ("swallow",), ("door", "run"), ("lend", "a", 1), ("look",)]
            run = acting(host, (rank, acts_of(acts))).call("run")
            self.assertEqual([len(run.looks()), run.doings()], [1, Live(host).call("run").doings()])

    def test_nothing_of_a_visit_is_assigned(self):
        for name in ["hook", "rank"]:
            def action(visit):
                with self.assertRaises(AttributeError):
                    setattr(visit, name, "x")

            acting(fire_host([]), ("ahead", action)).call("run")

    def test_what_an_action_returns_makes_no_difference(self):
        for returned in [None, True, "failed", [("fail",)], ("look",), 0]:
            run = acting(free_host([Fire("h")]), ("around", lambda visit: returned)).call("run")
            self.assertEqual(words(run.trace()), ["called run", "fired h", "visited around", "ended (0, 0)"])


class TestLive(unittest.TestCase):
    def test_the_first_state(self):
        for state in nested_host().boxes.states():
            host = nested_host().from_state(state)
            live = Live(host)
            self.assertEqual([live.state, live.host, live.parts()], [state, host, []])
        self.assertEqual(Live(host=pay_host()).state, (0, 0))

    def test_the_state_is_assigned(self):
        live = Live(pay_host())
        for state in [(1, 1), (0, 1), (0, 0)]:
            live.state = state
            self.assertEqual(live.state, state)
        for state in [(1, 1), (0, 1), (0, 0)]:
            self.assertIsNone(live.set_state(state=state))
            self.assertEqual(live.state, state)

    def test_no_states(self):
        live = Live(pay_host())
        live.state = (1, 0)
        for value in [(0,), (0, 2), [0, 1], (0, True), "busy=0 paid=1", 0, *odd_values(), *containers()]:
            with self.assertRaises(InvalidState) as caught:
                live.state = value
            self.assertIs(caught.exception.value, value)
            with self.assertRaises(InvalidState) as caught:
                live.set_state(value)
            self.assertIs(caught.exception.value, value)
            self.assertEqual(live.state, (1, 0))

    def test_no_host(self):
        for value in [None, 0, "", pay_boxes(), Host, Live(pay_host()), *odd_values(), *containers()]:
            with self.assertRaises(InvalidHost) as caught:
                Live(value)
            self.assertIs(caught.exception.value, value)

    def test_the_host_is_not_assigned(self):
        with self.assertRaises(AttributeError):
            Live(pay_host()).host = pay_host()

    def test_calls_one_after_another(self):
        body = [If("b", 0, [Put("b", 1)], [If("b", 1, [Put("b", 2), Fail()], [Put("b", 0)])])]
        live = Live(free_host(body))
        runs = [live.call("run") for _ in range(4)]
        self.assertEqual([(run.begin, run.way, run.state) for run in runs], [
            ((0, 0), "well", (0, 1)), ((0, 1), "failed", (0, 2)), ((0, 2), "well", (0, 0)), ((0, 0), "well", (0, 1)),
        ])
        self.assertEqual(live.state, (0, 1))
        live.state = (1, 2)
        self.assertEqual([live.call(deed="run").state, live.state], [(1, 0), (1, 0)])

    def test_two_of_one_host(self):
        host = free_host([Put("b", 2)])
        one, other = Live(host), Live(host)
        one.add("ahead", lambda visit: None)
        one.call("run")
        self.assertEqual([one.state, other.state, host.first, other.parts()], [(0, 2), (0, 0), (0, 0), []])

    def test_only_open_deeds_are_called(self):
        host = fire_host([])
        live = Live(host)
        self.assertEqual([live.call("good").state, live.state], [(0, 1), (0, 1)])
        for value in ["bad", "none", "h", "a", *WRONG_NAMES, *no_strings(), ("run",), AlwaysEqual()]:
            with self.assertRaises(NotOpen) as caught:
                live.call(value)
            self.assertEqual([caught.exception.value is value, live.state], [True, (0, 1)])


class TestParts(unittest.TestCase):
    def test_numbers(self):
        live = Live(fire_host([]))
        ranks = ["behind", "ahead", "around", "ahead", "behind"]
        self.assertEqual([live.add(rank, lambda visit: None) for rank in ranks], [0, 1, 2, 3, 4])
        self.assertEqual(live.parts(), list(enumerate(ranks)))
        self.assertEqual(live.add(action=acts_of(), rank="around"), 5)
        live.parts().clear()
        self.assertEqual(len(live.parts()), 6)

    def test_numbers_are_not_given_again(self):
        live = Live(fire_host([]))
        for _ in range(3):
            live.add("ahead", lambda visit: None)
        self.assertIsNone(live.remove(number=2))
        self.assertEqual(live.add("around", lambda visit: None), 3)
        live.remove(0)
        live.remove(3)
        self.assertEqual(live.parts(), [(1, "ahead")])
        live.remove(1)
        self.assertEqual([live.parts(), live.add("behind", lambda visit: None), live.parts()], [[], 4, [(4, "behind")]])

    def test_parts_that_are_not_there(self):
        live = Live(fire_host([]))
        live.add("ahead", lambda visit: None)
        live.add("around", lambda visit: None)
        live.remove(0)
        for value in [0, 2, 3, -1, 10 ** 29, *no_integers()]:
            with self.assertRaises(UnknownPart) as caught:
                live.remove(value)
            self.assertIs(caught.exception.value, value)
            self.assertEqual(live.parts(), [(1, "around")])

    def test_removed_parts_are_not_visited(self):
        seen = []
        live = Live(fire_host([]))
        for at in range(4):
            live.add("ahead", lambda visit, at=at: seen.append(at))
        live.remove(1)
        live.call("run")
        self.assertEqual(seen, [0, 2, 3])
        live.add("ahead", lambda visit: seen.append(4))
        live.remove(0)
        seen.clear()
        live.call("run")
        self.assertEqual(seen, [2, 3, 4])

    def test_one_action_may_be_added_often(self):
        seen = []
        action = seen.append
        live = acting(fire_host([]), ("ahead", action), ("ahead", action), ("behind", action))
        live.call("run")
        self.assertEqual([visit.rank for visit in seen], ["ahead", "ahead", "behind"])

    def test_no_ranks(self):
        live = Live(fire_host([]))
        for value in ["", "Ahead", "ahead ", "beside", "h", *WRONG_NAMES, *RIGHT_NAMES, *no_strings(), RANKS, ("ahead",), ["ahead"]]:
            with self.assertRaises(InvalidRank) as caught:
                live.add(value, lambda visit: None)
            self.assertIs(caught.exception.value, value)
        self.assertEqual([live.parts(), live.add("ahead", lambda visit: None)], [[], 0])

    def test_memory(self):
        # A part with a memory of its own: it lends each time another value.
        memory = []

        def action(visit):
            memory.append(None)
            visit.lend("b", len(memory) % 3)

        live = acting(free_host([Fire("h")]), ("ahead", action))
        self.assertEqual([live.call("run").state for _ in range(5)], [(0, 1), (0, 2), (0, 0), (0, 1), (0, 2)])


class TestDrivers(unittest.TestCase):
    def test_left(self):
        driver = acts_of([], [("look",)], [])
        live = acting(fire_host([]), ("ahead", driver))
        self.assertEqual(driver.left, 3)
        for left in [2, 1, 0, 0, 0]:
            live.call("run")
            self.assertEqual(driver.left, left)
        self.assertEqual([acts_of().left, Driver(script=Script([])).left], [0, 1])

    def test_rows_are_taken_in_sequence_and_empty_ones_too(self):
        driver = acts_of([("look",)], [], [("look",), ("look",)])
        live = acting(fire_host([]), ("ahead", driver))
        self.assertEqual([len(live.call("run").looks()) for _ in range(5)], [1, 0, 2, 0, 0])

    def test_one_driver_at_all_ranks_does_what_its_script_does(self):
        rows = [[("look",)], [("inner",), ("look",)], [("look",), ("look",)], [], [("look",)]]
        host = fire_host([])
        driver = acts_of(*rows)
        live = acting(host, *[(rank, driver) for rank in RANKS])
        run = live.call("run")
        self.assertEqual([run.trace(), driver.left], [run_script(host, "run", (0, 0), Script(*rows)).trace(), 2])
        self.assertEqual([item[2] for item in run.looks()], ["ahead", "around", "behind", "behind"])
        self.assertEqual([item[2] for item in live.call("run").looks()], ["around"])
        self.assertEqual(driver.left, 0)

    def test_one_driver_at_two_ranks_of_two_lives(self):
        driver = acts_of([("look",)], [("look",), ("look",)], [("look",)])
        one = acting(fire_host([]), ("ahead", driver), ("behind", driver))
        other = acting(fire_host([]), ("around", driver))
        self.assertEqual([len(one.call("run").looks()), driver.left, len(other.call("run").looks())], [3, 1, 1])

    def test_a_visit_that_begins_during_another_one_takes_its_row_then(self):
        driver = acts_of([("door", "pay"), ("look",)], [("look",), ("look",)], [])
        live = acting(pay_host(), ("ahead", driver))
        self.assertEqual([item[3] for item in live.call("pay").looks()], [(1, 0), (1, 0), (0, 1)])
        self.assertEqual(driver.left, 1)

    def test_a_driver_is_called(self):
        driver = acts_of([("lend", "b", 2), ("look",)], [("skip",), ("look",)], [("door", "run"), ("fail",)], [("answer",)],
                         [("inner",), ("swallow",), ("look",)])
        seen = []
        live = acting(free_host([Fire("h")]), ("around", lambda visit: seen.append(driver(visit))))
        self.assertEqual([item[3] for item in live.call("run").looks()], [(0, 2)])
        self.assertEqual([live.call("run").looks(), live.call("run").way], [[], "failed"])
        # The row with answer was taken within the door.
        self.assertEqual([driver.left, len(live.call("run").looks()), driver.left, seen], [1, 1, 0, [None] * 5])
        self.assertEqual(live.call("run").looks(), [])

    def test_a_driver_does_all_acts_by_the_methods_of_a_visit(self):
        acts = [*PLAIN, ("lend", "b", 2), ("door", "run"), *PLAIN[::-1]]
        told = []

        class Noting:
            """Notes each call of a method of this visit."""

            def __getattr__(self, name):
                return lambda *values: told.append((name, *values))

        driver = acts_of(acts, [], acts[:2])
        for wanted in [acts, [], acts[:2], [], []]:
            driver(Noting())
            self.assertEqual(told, wanted)
            told.clear()
        self.assertEqual(driver.left, 0)

    def test_no_script(self):
        for value in [None, [], [[]], [[("look",)]], 0, "", Script, Play([], Script()), *odd_values(), *containers()]:
            with self.assertRaises(InvalidScript) as caught:
                Driver(value)
            self.assertIsNone(caught.exception.position)

    def test_left_is_not_assigned(self):
        with self.assertRaises(AttributeError):
            acts_of().left = 1


class TestRuns(unittest.TestCase):
    def run_once(self):
        host = free_host([Put("a", 1), Fire("h"), Do("x"), Fail()], [Do("core")], [("more", [Do("y")])])
        live = acting(host, *[(rank, acts_of([("look",), ("door", "more")])) for rank in RANKS])
        live.state = (0, 2)
        return live.call("run")

    def test_what_a_run_tells(self):
        run = self.run_once()
        self.assertIs(run.__class__, Run)
        self.assertEqual([run.deed, run.begin, run.way, run.state], ["run", (0, 2), "failed", (1, 2)])
        more = [("called", "more"), ("did", "y"), ("ended", "more", "well", (1, 2))]
        seen = [[("visited", "h", rank), ("looked", "h", rank, (1, 2)), *more] for rank in RANKS]
        trace = [("called", "run"), ("fired", "h"), *seen[0], *seen[1], ("did", "core"), *seen[2], ("did", "x"),
                 ("ended", "run", "failed", (1, 2))]
        self.assertEqual(run.trace(), trace)
        self.assertEqual(run.doings(), [item for item in trace if item[0] in ("called", "did", "fired", "ended")])
        self.assertEqual(run.looks(), [item for item in trace if item[0] == "looked"])
        self.assertEqual(run.sequence(), [item for item in trace if item[0] != "visited"])

    def test_told_as_new_lists_of_tuples(self):
        run = self.run_once()
        for call in [run.trace, run.doings, run.looks, run.sequence]:
            told = call()
            self.assertEqual({item.__class__ for item in told}, {tuple})
            self.assertIs(told.__class__, list)
            wanted = list(told)
            told.clear()
            self.assertEqual(call(), wanted)

    def test_nothing_of_a_run_is_assigned(self):
        for name in ["deed", "begin", "way", "state"]:
            with self.assertRaises(AttributeError):
                setattr(self.run_once(), name, None)

    def test_a_run_does_not_change_with_its_live(self):
        live = Live(free_host([Put("b", 1), Do("x")]))
        run = live.call("run")
        told = [run.begin, run.state, run.trace()]
        live.state = (1, 2)
        live.call("run")
        self.assertEqual([run.begin, run.state, run.trace()], told)
