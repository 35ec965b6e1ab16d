"""Promise [93] and the interface of hookvows/desk.py: desks, trials and commands."""

import random
import unittest

from hookvows.boxes import Boxes
from hookvows.desk import Desk, Trial, tried
from hookvows.errors import CommandFailed, InvalidCommand, InvalidHost, InvalidName, InvalidPowers, InvalidVow, NothingToUndo
from hookvows.errors import UnknownDeed, UnknownVow
from hookvows.hosts import RANKS, VERBS, Host
from hookvows.plays import breaking_cost
from hookvows.records import outcomes
from hookvows.sets import States
from hookvows.vows import Kept, Once, Sure, Whole, is_kept
from tests.model import random_host
from tests.sample_hosts import pay_host
from tests.sample_vows import random_vows
from tests.samples import RIGHT_NAMES, WRONG_NAMES, AlwaysEqual, containers, no_strings, odd_values

DOOR = ("check", "ahead", "door", "pay")
FAIL = ("check", "behind", "fail", "")


def busy_vow():
    return Whole("check", States.where(pay_host().boxes, "busy", 1))


def all_of(desk):
    """All that can be told of a desk."""
    return desk.host, [(name, desk[name]) for name in desk.names()], desk.changes, len(desk)


def filled():
    """A desk with two vows; five changes, of which three are left."""
    desk = Desk(pay_host())
    desk["whole"] = busy_vow()
    desk["once"] = Once("pay", "charge")
    desk.give([FAIL])
    desk.drop("whole")
    desk.undo()
    desk.seal([DOOR])
    desk.undo()
    return desk


class TestDesk(unittest.TestCase):
    def assert_raised(self, error, value, call, *told):
        with self.assertRaises(error) as caught:
            call(*told)
        self.assertIs(caught.exception.value, value)

    def test_a_new_one(self):
        desk = Desk(pay_host())
        self.assertEqual(all_of(desk), (pay_host(), [], 0, 0))
        self.assertEqual([desk.names(), desk.broken()], [[], []])
        self.assertEqual(Desk(host=pay_host()).host, pay_host())
        for value in [None, pay_host().boxes, AlwaysEqual(), *odd_values()]:
            self.assert_raised(InvalidHost, value, Desk, value)

    def test_vows(self):
        desk = Desk(pay_host())
        for at, name in enumerate(RIGHT_NAMES):
            desk[name] = Once("pay", "charge")
            self.assertEqual([desk[name], len(desk), desk.changes], [Once("pay", "charge"), at + 1, at + 1])
        self.assertEqual(desk.names(), sorted(RIGHT_NAMES))
        desk["busy"] = busy_vow()
        self.assertEqual([desk["busy"], len(desk), desk.changes], [busy_vow(), len(RIGHT_NAMES), len(RIGHT_NAMES) + 1])
        desk.names().clear()
        self.assertEqual(len(desk.names()), len(RIGHT_NAMES))

    def test_wrong_names_and_vows(self):
        desk = filled()
        before = all_of(desk)
        for value in [*WRONG_NAMES, *no_strings(), *containers()]:
            self.assert_raised(InvalidName, value, desk.__setitem__, value, None)
            self.assert_raised(UnknownVow, value, lambda: desk[value])
            self.assert_raised(UnknownVow, value, desk.drop, value)
        for value in ["other", "pay", "on"]:
            self.assert_raised(UnknownVow, value, lambda: desk[value])
            self.assert_raised(UnknownVow, value, desk.drop, value)
        for value in [None, "once", Once("buy", "charge"), Kept(States(Boxes({"a": 2}), [])), AlwaysEqual(), *odd_values()]:
            self.assert_raised(InvalidVow, value, desk.__setitem__, "once", value)
            self.assert_raised(InvalidVow, value, desk.__setitem__, "new", value)
        self.assertEqual(all_of(desk), before)

    def test_drop(self):
        desk = filled()
        self.assertIsNone(desk.drop(name="whole"))
        self.assertEqual([desk.names(), len(desk), desk.changes], [["once"], 1, 4])
        self.assert_raised(UnknownVow, "whole", desk.drop, "whole")

    def test_seal_and_give(self):
        desk = filled()
        self.assertIsNone(desk.seal([DOOR]))
        self.assertEqual([desk.host.powers(), desk.changes], [[FAIL], 4])
        self.assertIsNone(desk.give(powers=(DOOR, FAIL)))
        self.assertEqual([desk.host.powers(), desk.changes], [[DOOR, FAIL], 5])
        desk.seal(powers=[])
        desk.give([])
        self.assertEqual([desk.host.powers(), desk.changes], [[DOOR, FAIL], 7])
        before = all_of(desk)
        for value in [None, DOOR, [DOOR, DOOR], [("check", "ahead", "fail", "")], [None], "powers", *odd_values()]:
            self.assert_raised(InvalidPowers, value, desk.seal, value)
        for value in [None, DOOR, [DOOR, DOOR], [("check", "ahead", "skip", "")], [("other", "ahead", "fail", "")], *odd_values()]:
            self.assert_raised(InvalidPowers, value, desk.give, value)
        self.assertEqual(all_of(desk), before)

    def test_the_host_is_assigned(self):
        desk = filled()
        other = pay_host([]).from_state((1, 1))
        desk.host = other
        self.assertEqual(all_of(desk), (other, all_of(filled())[1], 4, 2))
        self.assertIsNone(desk.set_host(host=pay_host()))
        self.assertEqual([desk.host, desk.changes], [pay_host(), 5])
        desk.host = pay_host()
        self.assertEqual(desk.changes, 6)
        for value in [None, desk, pay_host().boxes, AlwaysEqual(), *odd_values()]:
            self.assert_raised(InvalidHost, value, desk.set_host, value)
            self.assert_raised(InvalidHost, value, setattr, desk, "host", value)
            # Without vows there is none that could not fit.
            self.assert_raised(InvalidHost, value, Desk(pay_host()).set_host, value)
        self.assertEqual(desk.changes, 6)

    def test_a_host_that_some_vow_does_not_fit(self):
        boxes = pay_host().boxes
        desk = filled()
        desk["all"] = Kept(States.every(boxes))
        wider = Boxes({"busy": 2, "paid": 3})
        hosts = [
            (Host(boxes, (0, 0), [("pay", [])], {}, [], []), "whole"), (Host(boxes, (0, 0), [("buy", [])], {"check": []}, [], []), "once"),
            (Host(boxes, (0, 0), [("buy", [])], {}, [], []), "once"), (Host(wider, (0, 0), [("pay", [])], {"check": []}, [], []), "all"),
            (Host(wider, (0, 0), [("buy", [])], {}, [], []), "all"),
        ]
        before = all_of(desk)
        for host, name in hosts:
            for change in [desk.set_host, lambda value: setattr(desk, "host", value)]:
                self.assert_raised(InvalidVow, desk[name], change, host)
        self.assertEqual(all_of(desk), before)
        desk.drop("all")
        desk.drop("once")
        desk.drop("whole")
        desk.host = hosts[-1][0]
        self.assertEqual(desk.host, hosts[-1][0])

    def test_broken(self):
        desk = filled()
        self.assertEqual(desk.broken(), ["whole"])
        desk["none"] = Sure("pay", "none")
        desk["a"] = Sure("pay", "none", "well")
        self.assertEqual(desk.broken(), ["a", "none", "whole"])
        desk.seal([DOOR])
        self.assertEqual(desk.broken(), ["a", "none"])
        for seed in range(40):
            random_one, host = random.Random(seed), random_host(seed)
            desk = Desk(host)
            for at, vow in enumerate(random_vows(random_one, host)):
                desk["v" + str(at)] = vow
            self.assertEqual(desk.broken(), [name for name in desk.names() if not is_kept(host, desk[name])])

    def test_properties(self):
        desk = filled()
        with self.assertRaises(AttributeError):
            desk.changes = 0
        for name in ["host", "changes"]:
            self.assertIsInstance(vars(Desk)[name], property)

    def test_desks_are_not_iterated_over(self):
        desk = filled()
        for iterate in [list, iter, lambda told: "once" in told]:
            with self.assertRaises(TypeError):
                iterate(desk)


class TestUndo(unittest.TestCase):
    def test_each_kind_of_change(self):
        desk = filled()
        changes = [
            lambda: desk.__setitem__("new", busy_vow()), lambda: desk.__setitem__("once", busy_vow()), lambda: desk.drop("once"),
            lambda: desk.seal([DOOR]), lambda: desk.give([("check", "around", "again", "")]),
            lambda: desk.set_host(pay_host([])), lambda: setattr(desk, "host", pay_host(())), lambda: desk.do("drop once"),
            lambda: desk.do("seal check ahead door pay"), lambda: desk.do("give check ahead fail"),
            # These leave all as it was.
            lambda: desk.__setitem__("once", desk["once"]), lambda: desk.seal([]), lambda: desk.give([DOOR]),
            lambda: desk.set_host(desk.host), lambda: desk.do("give check ahead door pay"),
        ]
        for change in changes:
            before = all_of(desk)
            change()
            self.assertEqual(desk.changes, before[2] + 1)
            self.assertIsNone(desk.undo())
            self.assertEqual(all_of(desk), before)

    def test_many_changes(self):
        desk = Desk(pay_host())
        told = []
        for at in range(60):
            told.append(all_of(desk))
            [lambda: desk.__setitem__("v" + str(at), busy_vow()), lambda: desk.give([FAIL]), lambda: desk.seal([])][at % 3]()
        for before in told[::-1]:
            desk.undo()
            self.assertEqual(all_of(desk), before)
        with self.assertRaises(NothingToUndo):
            desk.undo()
        self.assertEqual(all_of(desk), told[0])

    def test_a_change_behind_an_undo(self):
        desk = filled()
        desk.drop("once")
        desk.undo()
        desk.drop("whole")
        self.assertEqual([desk.names(), desk.changes], [["once"], 4])
        desk.undo()
        desk.undo()
        self.assertEqual([desk.names(), desk.host.powers(), desk.changes], [["once", "whole"], [DOOR], 2])

    def test_nothing_to_undo(self):
        desk = Desk(pay_host())
        for _ in range(2):
            with self.assertRaises(NothingToUndo):
                desk.undo()
            self.assertEqual(desk.changes, 0)


class TestCopy(unittest.TestCase):
    def test_copies_change_independently(self):
        desk = filled()
        other = desk.copy()
        self.assertIsInstance(other, Desk)
        self.assertEqual(all_of(other), all_of(desk))
        before = all_of(desk)
        other.undo()
        other.drop("once")
        other["new"] = busy_vow()
        other.seal([DOOR])
        self.assertEqual(all_of(desk), before)
        told = all_of(other)
        desk.host = pay_host([])
        desk.undo()
        for _ in range(3):
            desk.undo()
        self.assertEqual([desk.changes, desk.names()], [0, []])
        self.assertEqual(all_of(other), told)
        for _ in range(5):
            other.undo()
        self.assertEqual(all_of(other), (pay_host(), [], 0, 0))


class TestCommands(unittest.TestCase):
    def assert_raised(self, error, value, call, *told):
        with self.assertRaises(error) as caught:
            call(*told)
        self.assertEqual(caught.exception.value, value)

    def test_answers(self):
        desk = filled()
        for command, answer, changes in [
            ("broken", "whole", 3), ("cost whole", "3", 3), ("cost once", "kept", 3), ("seal check ahead door pay", "done", 4),
            ("broken", "none", 4), ("cost whole", "kept", 4), ("undo", "done", 3), ("give check around again", "done", 4),
            ("give check ahead lend busy", "done", 5), ("drop whole", "done", 6), ("undo", "done", 5), ("broken", "whole", 5),
            ("outcomes pay busy=1 paid=0", "; ".join(
                ["failed: busy=" + busy + " paid=" + paid for busy in "01" for paid in "01"] + ["well: busy=0 paid=1"]
            ), 5),
        ]:
            self.assertEqual(desk.do(command), answer, command)
            self.assertEqual(desk.changes, changes)
        self.assertEqual(desk.host.powers(), sorted([DOOR, FAIL, ("check", "around", "again", ""), ("check", "ahead", "lend", "busy")]))
        self.assertEqual(desk.do(command="undo"), "done")

    def test_several_broken_vows(self):
        desk = filled()
        desk["b"] = Sure("pay", "none")
        desk["a"] = Sure("pay", "none")
        self.assertEqual(desk.do("broken"), "a b whole")
        self.assertEqual(desk.do("cost a"), "1")
        desk["zero"] = Kept(States(desk.host.boxes, []))
        self.assertEqual(desk.do("cost zero"), "0")

    def test_answers_at_random_hosts(self):
        for seed in range(40):
            random_one, host = random.Random(seed), random_host(seed)
            desk = Desk(host)
            desk["vow"] = random_one.choice(random_vows(random_one, host))
            cost = breaking_cost(host, desk["vow"])
            self.assertEqual(desk.do("cost vow"), "kept" if cost is None else str(cost))
            self.assertEqual(desk.do("broken"), "none" if cost is None else "vow")
            deed, state = random_one.choice(host.deeds()), random_one.choice(host.boxes.states())
            told = "; ".join(way + ": " + host.boxes.text(end) for way, end in outcomes(host, deed, state))
            self.assertEqual(desk.do("outcomes " + deed + " " + host.boxes.text(state)), told)
            self.assertEqual(desk.changes, 1)

    def test_all_powers(self):
        host = pay_host()
        desk = Desk(host - host.powers())
        for power in host.all_powers():
            words = " ".join(word for word in power if word)
            self.assertEqual(desk.do("give " + words), "done")
            self.assertTrue(desk.host.lets(power))
        for power in host.all_powers():
            words = " ".join(word for word in power if word)
            self.assertEqual(desk.do("seal " + words), "done")
            self.assertFalse(desk.host.lets(power))
            self.assert_raised(InvalidPowers, [power], desk.do, "seal " + words)

    def test_errors_of_commands(self):
        desk = filled()
        before = all_of(desk)
        self.assert_raised(InvalidPowers, [("check", "ahead", "fail", "")], desk.do, "seal check ahead fail")
        self.assert_raised(InvalidPowers, [("other", "ahead", "fail", "")], desk.do, "seal other ahead fail")
        self.assert_raised(InvalidPowers, [("check", "ahead", "door", "buy")], desk.do, "give check ahead door buy")
        self.assert_raised(InvalidPowers, [("check", "ahead", "lend", "sold")], desk.do, "give check ahead lend sold")
        self.assert_raised(UnknownVow, "other", desk.do, "drop other")
        self.assert_raised(UnknownVow, "other", desk.do, "cost other")
        self.assert_raised(UnknownDeed, "buy", desk.do, "outcomes buy busy=0 paid=0")
        self.assertEqual(all_of(desk), before)
        with self.assertRaises(NothingToUndo):
            Desk(pay_host()).do("undo")

    def test_no_commands(self):
        desk = filled()
        before = all_of(desk)
        right = ["undo", "broken", "drop once", "cost once", "seal check ahead door pay", "give check ahead fail",
                 "outcomes pay busy=0 paid=0"]
        wrong = ["", " ", "Undo", "redo", "un do", "undo once", "broken once", "drop", "drop once whole", "drop Once", "drop 1",
                 "drop abcdefghi", "cost", "cost once whole", "cost _", "seal", "give", "seal check", "seal check ahead",
                 "seal check door pay", "seal ahead check door pay", "seal check ahead door", "seal check ahead lend",
                 "seal check ahead door pay pay", "seal check ahead fail pay", "give check ahead answer busy",
                 "seal check ahead door Pay", "seal Check ahead door pay", "seal check inside door pay", "seal check ahead open pay",
                 "give check behind skip", "give check ahead skip", "give check ahead again", "give check ahead swallow",
                 "give check around answer", "give check behind answer", "give check behind swallow", "give check around done",
                 "outcomes", "outcomes pay", "outcomes pay busy=0", "outcomes pay paid=0 busy=0", "outcomes pay busy=0 paid=2",
                 "outcomes pay busy=0  paid=0", "outcomes pay busy=0 paid=0 more", "outcomes Pay busy=0 paid=0", "outcomes buy",
                 "outcomes buy busy=0", "outcomes busy=0 paid=0", "outcomes pay (0, 0)", "host", "copy", "done", "none"]
        for command in right:
            wrong += [" " + command, command + " ", command + "\n", command.replace(" ", "  ") if " " in command else command + ".",
                      command.upper(), command.replace(" ", "\n") if " " in command else command + "\n", command[1:], command + " x y z"]
        for command in [*wrong, *no_strings(), *odd_values(), *containers(), b"undo", ["undo"], ("undo",), right]:
            with self.assertRaises(InvalidCommand) as caught:
                desk.do(command)
            self.assertIs(caught.exception.value, command)
        self.assertEqual(all_of(desk), before)

    def test_verbs_of_each_rank_alone(self):
        verbs = {verb for rank in RANKS for verb in VERBS[rank]}
        for rank in RANKS:
            for verb in verbs:
                desk = Desk(pay_host(()))
                command = "give check " + rank + " " + verb + {"lend": " busy", "door": " pay"}.get(verb, "")
                if verb in VERBS[rank]:
                    self.assertEqual(desk.do(command), "done")
                else:
                    self.assert_raised(InvalidCommand, command, desk.do, command)


class TestDoAll(unittest.TestCase):
    def test_answers(self):
        desk = filled()
        self.assertEqual(desk.do_all(), [])
        told = desk.do_all("broken", "seal check ahead door pay", "broken", "undo", "cost whole", "drop once")
        self.assertEqual(told, ["whole", "done", "none", "done", "3", "done"])
        self.assertEqual([desk.names(), desk.changes], [["whole"], 4])

    def test_an_error_in_the_middle(self):
        for failing, cause in [
            ("drop other", UnknownVow), ("seal check ahead fail", InvalidPowers), ("nothing", InvalidCommand), (None, InvalidCommand),
            ("outcomes buy busy=0 paid=0", UnknownDeed), ("cost none", UnknownVow),
        ]:
            desk = filled()
            before = all_of(desk)
            commands = ["undo", "undo", "give check ahead lend paid", "drop whole"]
            with self.assertRaises(CommandFailed) as caught:
                desk.do_all(*commands, failing, "undo")
            self.assertEqual(caught.exception.position, 4)
            self.assertIsInstance(caught.exception.__cause__, cause)
            self.assertEqual(all_of(desk), before)
            # What can be taken back is as before, too.
            desk.undo()
            self.assertEqual([desk.host.powers(), desk.changes], [[DOOR], 2])

    def test_more_undone_than_there_is(self):
        desk = filled()
        before = all_of(desk)
        with self.assertRaises(CommandFailed) as caught:
            desk.do_all("undo", "undo", "undo", "undo")
        self.assertEqual(caught.exception.position, 3)
        self.assertIsInstance(caught.exception.__cause__, NothingToUndo)
        self.assertEqual(all_of(desk), before)

    def test_the_first_one(self):
        desk = filled()
        with self.assertRaises(CommandFailed) as caught:
            desk.do_all("drop", "undo")
        self.assertEqual([caught.exception.position, caught.exception.__cause__.value], [0, "drop"])


class TestTrial(unittest.TestCase):
    def test_a_block_that_ends_well(self):
        desk = filled()
        before = all_of(desk)
        with Trial(desk) as told:
            self.assertIs(told, desk)
            desk.drop("once")
            desk["new"] = busy_vow()
            desk.host = pay_host([])
            self.assertEqual(desk.changes, 6)
            for _ in range(5):
                desk.undo()
        self.assertEqual(all_of(desk), before)
        desk.undo()
        self.assertEqual(desk.host.powers(), [DOOR])

    def test_a_block_that_raises(self):
        desk = filled()
        before = all_of(desk)
        error = ValueError("own")
        with self.assertRaises(ValueError) as caught:
            with Trial(desk):
                desk.seal([DOOR])
                raise error
        self.assertIs(caught.exception, error)
        self.assertEqual(all_of(desk), before)
        with self.assertRaises(UnknownVow):
            with Trial(desk=desk):
                desk.drop("once")
                desk.drop("once")
        self.assertEqual(all_of(desk), before)

    def test_blocks_that_are_left(self):
        desk = filled()
        before = all_of(desk)

        def leave():
            with Trial(desk):
                desk.drop("once")
                return len(desk)

        self.assertEqual(leave(), 1)
        for _ in range(2):
            with Trial(desk):
                desk.drop("once")
                continue
        self.assertEqual(all_of(desk), before)

    def test_blocks_within_blocks(self):
        desk = filled()
        before = all_of(desk)
        with Trial(desk):
            desk.drop("once")
            within = all_of(desk)
            with Trial(desk):
                desk.drop("whole")
            self.assertEqual(all_of(desk), within)
        self.assertEqual(all_of(desk), before)

    def test_one_trial_for_several_blocks(self):
        desk = filled()
        before = all_of(desk)
        trial = Trial(desk)
        for _ in range(2):
            with trial:
                desk.drop("once")
                within = all_of(desk)
                with trial:
                    desk.drop("whole")
                self.assertEqual(all_of(desk), within)
            self.assertEqual(all_of(desk), before)
        desk.drop("once")
        with trial:
            desk.undo()
        self.assertEqual(desk.names(), ["whole"])

    def test_copies_that_are_made_in_a_block_stay(self):
        desk = filled()
        with Trial(desk):
            desk.drop("once")
            other = desk.copy()
        self.assertEqual([desk.names(), other.names()], [["once", "whole"], ["whole"]])

    def test_tried(self):
        desk = filled()
        before = all_of(desk)
        self.assertEqual(tried(desk, "seal check ahead door pay", "broken", "drop once"), ["done", "none", "done"])
        self.assertEqual(all_of(desk), before)
        self.assertEqual(tried(desk), [])
        with self.assertRaises(CommandFailed) as caught:
            tried(desk, "drop once", "undo", "undo", "drop once", "drop once")
        self.assertEqual(caught.exception.position, 4)
        self.assertIsInstance(caught.exception.__cause__, UnknownVow)
        self.assertEqual(all_of(desk), before)
