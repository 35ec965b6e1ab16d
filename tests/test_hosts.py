"""Promises [2], [22] and [23]: hosts, their powers, and what is told of them."""

import itertools
import unittest

from hookvows.boxes import Boxes
from hookvows.errors import InvalidBoxes, InvalidDeed, InvalidDeeds, InvalidHook, InvalidHooks, InvalidOpen
from hookvows.errors import InvalidPowers, InvalidState, TooMany, UnknownDeed, UnknownHook
from hookvows.hosts import RANKS, VERBS, Host
from hookvows.statements import Call, Do, Fail, Fire, Guard, If, Last, Put
from tests.sample_hosts import free_host, nested_body, nested_host, pay_boxes, pay_host
from tests.samples import RIGHT_NAMES, WRONG_NAMES, AlwaysEqual, containers, no_integers, no_strings, odd_values

RIGHT = {
    "boxes": pay_boxes(),
    "first": (0, 1),
    "deeds": [("pay", [Put("busy", 1), Fire("check"), Do("charge")]), ("back", (Call("pay"), Do("undo")))],
    "hooks": {"check": [Do("test")], "audit": ()},
    "open_deeds": ["back", "pay"],
    "powers": [("check", "ahead", "lend", "paid"), ("audit", "behind", "door", "back"), ("check", "around", "skip", "")],
}

# What is raised for a wrong value, for each parameter in sequence.
ERRORS = [InvalidBoxes, InvalidState, InvalidDeeds, InvalidHooks, InvalidOpen, InvalidPowers]


def made(**changed):
    """The right host, but for what is changed."""
    return Host(**{**RIGHT, **changed})


def one_deed(*body, **changed):
    """A host with the one deed a, which has this body, and the hook check."""
    return made(deeds=[("a", list(body))], open_deeds=[], powers=[], hooks={"check": []}, **changed)


def deep(statement, depth=7):
    """Statements that have this one within one another, at all places."""
    found = [statement]
    for _ in range(depth):
        inner = found[-1]
        found += [If("busy", 0, [inner]), If("busy", 0, [], [Do("x"), inner]), Last([inner], []), Last([], [inner])]
        found += [Guard([inner, Do("x")]), Guard([], [inner])]
        found = [found[0]] + found[-6:]
    return [*found, *[kind for inner in found for kind in [Guard([inner]), Last([], [inner]), If("paid", 1, [], [inner])]]]


class Asserts(unittest.TestCase):
    def assert_raised(self, error, value, call):
        with self.assertRaises(error) as caught:
            call()
        self.assertIs(caught.exception.__class__, error)
        told = caught.exception.name if error in (InvalidDeed, InvalidHook) else caught.exception.value
        if isinstance(value, str):
            self.assertEqual(told, value)
        else:
            self.assertIs(told, value)

    def assert_too_many(self, what, limit, call):
        with self.assertRaises(TooMany) as caught:
            call()
        self.assertEqual((caught.exception.what, caught.exception.limit), (what, limit))


class TestNames(Asserts):
    def test_ranks_and_verbs(self):
        self.assertEqual(RANKS, ("ahead", "around", "behind"))
        self.assertIs(RANKS.__class__, tuple)
        self.assertEqual(VERBS, {
            "ahead": ("lend", "door", "fail", "answer"),
            "around": ("lend", "door", "fail", "skip", "again", "swallow"),
            "behind": ("lend", "door", "fail"),
        })
        self.assertEqual([VERBS.__class__, *[verbs.__class__ for verbs in VERBS.values()]], [dict, tuple, tuple, tuple])

    def test_limits(self):
        self.assertEqual([Host.MOST_DEEDS, Host.MOST_HOOKS, Host.MOST_STATEMENTS], [5, 4, 40])
        host = made()
        self.assertEqual([host.MOST_DEEDS, host.MOST_HOOKS, host.MOST_STATEMENTS], [5, 4, 40])


class TestTold(Asserts):
    def test_a_host(self):
        host = made()
        self.assertEqual(host.boxes, RIGHT["boxes"])
        self.assertEqual(host.first, (0, 1))
        self.assertEqual(host.deeds(), ["pay", "back"])
        self.assertEqual(host.body("pay"), [Put("busy", 1), Fire("check"), Do("charge")])
        self.assertEqual(host.body("back"), [Call("pay"), Do("undo")])
        self.assertEqual(host.hooks(), ["audit", "check"])
        self.assertEqual([host.core("check"), host.core("audit")], [[Do("test")], []])
        self.assertEqual(host.open_deeds(), ["pay", "back"])
        self.assertEqual(host.powers(), [
            ("audit", "behind", "door", "back"), ("check", "ahead", "lend", "paid"), ("check", "around", "skip", ""),
        ])
        self.assertEqual(host.steps(), ["charge", "test", "undo"])
        self.assertEqual(len(host), 6)

    def test_by_position_and_in_another_sequence(self):
        self.assertEqual(Host(*RIGHT.values()), made())
        self.assertEqual(Host(**dict(reversed(list(RIGHT.items())))), made())

    def test_the_least_host(self):
        host = Host(Boxes({"a": 2}), (0,), [("b", [])], {}, [], [])
        self.assertEqual([host.deeds(), host.hooks(), host.open_deeds(), host.powers(), host.steps()], [["b"], [], [], [], []])
        self.assertEqual([host.body("b"), len(host), host.all_powers()], [[], 0, []])

    def test_deeds_keep_their_sequence(self):
        for names in itertools.permutations(["a", "b", "c"]):
            host = made(deeds=[(name, []) for name in names], open_deeds=["c", "a"], powers=[])
            self.assertEqual(host.deeds(), list(names))
            self.assertEqual(host.open_deeds(), [name for name in names if name != "b"])

    def test_lists_are_told_as_lists(self):
        host = made(deeds=(("a", (Do("x"),)),), hooks={"check": (Do("y"),)}, open_deeds=("a",), powers=())
        for told in [host.deeds(), host.body("a"), host.hooks(), host.core("check"), host.open_deeds(), host.powers(),
                     host.steps(), host.all_powers()]:
            self.assertIs(told.__class__, list)
        self.assertEqual([host.body("a"), host.core("check"), host.open_deeds()], [[Do("x")], [Do("y")], ["a"]])

    def test_hooks_are_sorted(self):
        for names in itertools.permutations(["b", "a2", "a", "z"]):
            host = made(hooks={name: [Do(name)] for name in names}, deeds=[("a", [])], open_deeds=[], powers=[])
            self.assertEqual(host.hooks(), ["a", "a2", "b", "z"])
            self.assertEqual([host.core(name) for name in host.hooks()], [[Do(name)] for name in host.hooks()])

    def test_steps_at_all_places_each_once(self):
        self.assertEqual(nested_host().steps(), ["core", "deep", "end", "first", "guard", "last", "none", "other"])
        body = [Do("b"), Guard([Do("a")], [Do("b")]), Do("a")]
        self.assertEqual(one_deed(*body).steps(), ["a", "b"])
        self.assertEqual(one_deed(Do("a10"), Do("a2"), Do("a")).steps(), ["a", "a10", "a2"])

    def test_len_is_the_number_of_all_statements(self):
        self.assertEqual(len(free_host(nested_body())), sum(part.many() for part in nested_body()))
        self.assertEqual([sum(part.many() for part in nested_body()), len(nested_host())], [17, 17 + 5 + 3 + 4])
        self.assertEqual(len(one_deed(Do("a"))), 1)

    def test_in(self):
        host = made()
        for name in ["pay", "back"]:
            self.assertIs(name in host, True)
        for value in ["check", "audit", "busy", "charge", "", *WRONG_NAMES, *no_strings(), *no_integers(), ("pay",), ["pay"]]:
            self.assertIs(value in host, False)

    def test_unknown_deeds_and_hooks(self):
        host = made()
        for value in [*WRONG_NAMES, *no_strings(), ("pay",), "check", "busy", "charge"]:
            self.assert_raised(UnknownDeed, value, lambda: host.body(value))
        for value in [*WRONG_NAMES, *no_strings(), ("check",), "pay", "busy", "charge"]:
            self.assert_raised(UnknownHook, value, lambda: host.core(value))
        self.assertEqual([host.body(deed="pay"), host.core(hook="audit")], [made().body("pay"), []])

    def test_all_right_names(self):
        for name in RIGHT_NAMES:
            body = [Do(name), Fire(name), Put(name, 1), If(name, 0, [Call("z9")])]
            host = Host(Boxes({name: 2}), (0,), [("z9", []), (name, body)], {name: []}, [name], [(name, "ahead", "lend", name)])
            self.assertEqual([host.deeds(), host.hooks(), host.steps()], [["z9", name], [name], [name]])
            self.assertIs(host.lets((name, "ahead", "lend", name)), True)


class TestCopies(Asserts):
    def test_changes_of_what_is_passed_make_no_difference(self):
        body, core, open_deeds, powers = [Do("a")], [Do("b")], ["d"], [("check", "ahead", "fail", "")]
        deeds, hooks = [("d", body)], {"check": core}
        host = made(deeds=deeds, hooks=hooks, open_deeds=open_deeds, powers=powers)
        same = made(deeds=[("d", [Do("a")])], hooks={"check": [Do("b")]}, open_deeds=["d"], powers=list(powers))
        for passed in [body, core, open_deeds, powers, deeds, hooks]:
            passed.clear()
        self.assertEqual(host, same)
        self.assertEqual([host.body("d"), host.core("check"), len(host)], [[Do("a")], [Do("b")], 2])

    def test_changes_of_what_is_told_make_no_difference(self):
        host = made()
        calls = [host.deeds, lambda: host.body("pay"), host.hooks, lambda: host.core("check"), host.open_deeds, host.powers,
                 host.steps, host.all_powers]
        for call in calls:
            told = call()
            self.assertGreater(len(told), 0)
            told.clear()
            self.assertGreater(len(call()), 0)
            self.assertIsNot(call(), call())
        self.assertEqual(host, made())

    def test_the_arguments_are_not_changed(self):
        made()
        self.assertEqual(RIGHT["open_deeds"], ["back", "pay"])
        self.assertEqual([power[0] for power in RIGHT["powers"]], ["check", "audit", "check"])
        self.assertEqual(list(RIGHT["hooks"]), ["check", "audit"])

    def test_nothing_is_assigned(self):
        for name in ["boxes", "first"]:
            with self.assertRaises(AttributeError):
                setattr(made(), name, None)


class TestWrong(Asserts):
    def test_boxes(self):
        for value in [0, "a", {"busy": 2}, Boxes, ("busy", "paid"), *odd_values(), *containers()]:
            self.assert_raised(InvalidBoxes, value, lambda: made(boxes=value))

    def test_first(self):
        wrong = [(0,), (0, 2), (2, 0), (0, -1), (0, True), (False, 1), (0, 1, 0), [0, 1], "busy=0 paid=1", ("0", "1")]
        for value in [*wrong, 0, "a", *odd_values(), *containers()]:
            self.assert_raised(InvalidState, value, lambda: made(first=value))

    def test_deeds(self):
        right = ("a", [Do("a")])
        wrong = [[], (), {}, {"a": []}, "a", 0, right, [["a", []]], [("a",)], [("a", [], [])], [("a", Do("b"))], [()], [[]]]
        wrong += [[("a", None)], [("a", "b")], [("a", ["b"])], [("a", [Do("b"), None])], [("a", {})], [right, right]]
        wrong += [[right, ("b", []), ("a", [])], [right, None], [None, right], (right, right), iter([right]), [("A", [])]]
        wrong += [[(name, [])] for name in [*WRONG_NAMES, *no_strings()]]
        for value in [*wrong, *odd_values(), *containers()]:
            self.assert_raised(InvalidDeeds, value, lambda: made(deeds=value))

    def test_hooks(self):
        wrong = [[], (), [("a", [])], "a", 0, ["a"], {"A": []}, {"a": None}, {"a": "b"}, {"a": ["b"]}, {"a": Do("b")}]
        wrong += [{"a": [], "b": [None]}, {"a": {}}, {0: []}, {None: []}, {("a",): []}, {"": []}, {"a": [], "abcdefghi": []}]
        for value in [*wrong, *odd_values()]:
            self.assert_raised(InvalidHooks, value, lambda: made(hooks=value))

    def test_open_deeds(self):
        wrong = [["check"], ["pay", "pay"], ["pay", "back", "pay"], ["other"], [""], ["pay", None], [["pay"]], [("pay",)], "pay"]
        wrong += [{"pay": True}, {"pay"}, iter(["pay"]), [AlwaysEqual()], ["pay", AlwaysEqual()], [0], [True], ("pay", "pay")]
        for value in [*wrong, 0, 1, "", {}, {"a": "a"}, {0: 0}, *odd_values(), ["a"], ("a",), [[]], ((),), [None]]:
            self.assert_raised(InvalidOpen, value, lambda: made(open_deeds=value))

    def test_powers(self):
        right = ("check", "ahead", "fail", "")
        wrong = [[right, right], [list(right)], [right, None], [right + ("",)], [right[:3]], [()], [[]], right, "check"]
        wrong += [[("other", "ahead", "fail", "")], [("pay", "ahead", "fail", "")], [("check", "beside", "fail", "")]]
        wrong += [[("check", "ahead", "look", "")], [("check", "ahead", "fail", "pay")], [("check", "ahead", "fail", None)]]
        wrong += [[("check", "ahead", "lend", "")], [("check", "ahead", "lend", "pay")], [("check", "ahead", "door", "busy")]]
        wrong += [[("check", "ahead", "door", "")], [("check", "ahead", "door", "none")]]
        wrong += [[("check", rank, verb, "")] for rank, verb in [
            ("ahead", "skip"), ("ahead", "again"), ("ahead", "swallow"), ("around", "answer"), ("behind", "answer"),
            ("behind", "skip"), ("behind", "again"), ("behind", "swallow"), ("around", "inner"), ("around", "door"),
        ]]
        wrong += [[tuple(odd if at == place else word for at, word in enumerate(right))]
                  for place in range(4) for odd in [*no_strings(), "x", "Check", "fail ", AlwaysEqual()]]
        wrong += [{right: True}, {right}, iter([right]), (right, right), [AlwaysEqual()]]
        for value in [*wrong, 0, 1, "", {}, *odd_values(), ["a"], ("a",), [[]], ((),), [None], {None: None}]:
            self.assert_raised(InvalidPowers, value, lambda: made(powers=value))

    def test_the_first_parameter_that_is_wrong_decides(self):
        wrong = {"boxes": None, "first": "no state", "deeds": [], "hooks": [], "open_deeds": ["other"], "powers": [()]}
        names = list(wrong)
        for at, name in enumerate(names):
            self.assert_raised(ERRORS[at], wrong[name], lambda: made(**{name: wrong[name]}))
            for further in itertools.product([False, True], repeat=len(names) - at - 1):
                changed = {other: wrong[other] for other, too in zip(names[at + 1:], further) if too}
                self.assert_raised(ERRORS[at], wrong[name], lambda: made(**{name: wrong[name], **changed}))

    def test_wrong_bodies_are_told_behind_wrong_parameters(self):
        deeds = [("pay", [Put("none", 0)]), ("back", [])]
        for at, (name, value) in enumerate([("hooks", []), ("open_deeds", ["other"]), ("powers", [()])], start=3):
            self.assert_raised(ERRORS[at], value, lambda: made(deeds=deeds, **{name: value}))


class TestBodies(Asserts):
    def test_a_box_that_there_is_not(self):
        for wrong in [Put("none", 0), If("none", 0, []), Put("pay", 0), If("check", 1, [])]:
            for statement in deep(wrong):
                self.assert_raised(InvalidDeed, "a", lambda: one_deed(Do("b"), statement))
                self.assert_raised(InvalidHook, "check", lambda: made(hooks={"check": [statement], "audit": []}))

    def test_a_value_that_the_box_does_not_have(self):
        boxes = Boxes({"busy": 3, "paid": 4})
        for box, size in [("busy", 3), ("paid", 4)]:
            for value in range(4):
                for statement in [*deep(Put(box, value), 2), *deep(If(box, value, []), 2)]:
                    if value < size:
                        self.assertEqual(one_deed(statement, boxes=boxes).deeds(), ["a"])
                    else:
                        self.assert_raised(InvalidDeed, "a", lambda: one_deed(statement, boxes=boxes))

    def test_a_fire_of_no_hook(self):
        for statement in deep(Fire("none")):
            self.assert_raised(InvalidDeed, "a", lambda: one_deed(statement))
        for statement in deep(Fire("a")):
            self.assert_raised(InvalidDeed, "a", lambda: one_deed(statement))
        for statement in deep(Fire("check")):
            self.assertEqual(one_deed(statement).hooks(), ["check"])

    def test_a_call_of_a_deed_that_is_not_ahead(self):
        for wrong in ["a", "b", "other", "check"]:
            for statement in deep(Call(wrong), 2):
                deeds = [("z", []), ("a", [statement]), ("b", [])]
                self.assert_raised(InvalidDeed, "a", lambda: made(deeds=deeds, open_deeds=[], powers=[]))
        for statement in deep(Call("z")):
            deeds = [("z", []), ("a", [statement]), ("b", [Call("a"), statement])]
            self.assertEqual(made(deeds=deeds, open_deeds=[], powers=[]).deeds(), ["z", "a", "b"])

    def test_a_core_that_fires_or_calls(self):
        for wrong in [Fire("check"), Fire("audit"), Fire("none"), Call("pay"), Call("back"), Call("none")]:
            for statement in deep(wrong, 2):
                self.assert_raised(InvalidHook, "check", lambda: made(hooks={"check": [statement], "audit": []}))

    def test_the_first_deed_and_the_least_hook_decide(self):
        deeds = [("z", []), ("y", [Call("x")]), ("x", [Fire("none")]), ("a", [Put("none", 0)])]
        hooks = {"z": [Fire("z")], "check": [Call("z")], "b": [], "c": [Do("x"), Put("none", 1)]}
        self.assert_raised(InvalidDeed, "y", lambda: made(deeds=deeds, hooks=hooks, open_deeds=[], powers=[]))
        deeds = [("z", []), ("y", []), ("x", [Fire("none")]), ("a", [Put("none", 0)])]
        self.assert_raised(InvalidDeed, "x", lambda: made(deeds=deeds, hooks=hooks, open_deeds=[], powers=[]))
        self.assert_raised(InvalidHook, "c", lambda: made(deeds=[("z", [])], hooks=hooks, open_deeds=[], powers=[]))

    def test_limits_are_asked_behind_all_bodies(self):
        hooks = {f"h{at}": [] for at in range(5)}
        deeds = [(f"d{at}", [Do("a")] * 20) for at in range(6)]
        wrong = [*deeds, ("e", [Fire("none")])]
        self.assert_raised(InvalidDeed, "e", lambda: made(deeds=wrong, hooks=hooks, open_deeds=[], powers=[]))
        bad = {**hooks, "h9": [Call("d0")]}
        self.assert_raised(InvalidHook, "h9", lambda: made(deeds=deeds, hooks=bad, open_deeds=[], powers=[]))
        self.assert_too_many("deeds", 5, lambda: made(deeds=deeds, hooks=hooks, open_deeds=[], powers=[]))
        self.assert_too_many("hooks", 4, lambda: made(deeds=deeds[:5], hooks=hooks, open_deeds=[], powers=[]))
        del hooks["h0"]
        self.assert_too_many("statements", 40, lambda: made(deeds=deeds[:5], hooks=hooks, open_deeds=[], powers=[]))
        self.assertEqual(len(made(deeds=deeds[:2], hooks=hooks, open_deeds=[], powers=[])), 40)


class TestLimits(Asserts):
    def test_five_deeds(self):
        for many in [1, 2, 3, 4, 5]:
            self.assertEqual(len(made(deeds=[(f"d{at}", []) for at in range(many)], open_deeds=[], powers=[]).deeds()), many)
        for many in [6, 7, 40, 400]:
            deeds = [(f"d{at}", []) for at in range(many)]
            self.assert_too_many("deeds", 5, lambda: made(deeds=deeds, open_deeds=["d5"], powers=[]))

    def test_four_hooks(self):
        for many in range(5):
            hooks = {f"h{at}": [] for at in range(many)}
            self.assertEqual(len(made(deeds=[("d", [])], hooks=hooks, open_deeds=[], powers=[]).hooks()), many)
        for many in [5, 6, 400]:
            hooks = {f"h{at}": [] for at in range(many)}
            self.assert_too_many("hooks", 4, lambda: made(deeds=[("d", [])], hooks=hooks, open_deeds=[], powers=[]))

    def test_forty_statements(self):
        def with_many(many, kind):
            bodies = {
                "one deed": ([("d", [Do("a")] * many)], {}),
                "all deeds": ([(f"d{at}", [Do("a")] * (many // 5 + (at < many % 5))) for at in range(5)], {}),
                "one core": ([("d", [])], {"h": [Do("a")] * many}),
                "all bodies and cores": ([("d", [Do("a")] * (many - 7))], {"h": [Do("a")] * 3, "i": [Fail()] * 4}),
                "within an if": ([("d", [If("busy", 0, [Do("a")] * 9, [Do("a")] * (many - 10))])], {}),
                "within a try": ([("d", [Last([Do("a")] * 9, [Do("a")] * (many - 10))])], {}),
                "within a guard": ([("d", [Guard([Do("a")] * 9, [Do("a")] * (many - 10))])], {}),
                "within a core": ([("d", [Do("a")])], {"h": [Guard([], [Last([Do("a")] * (many - 3), [])])]}),
            }
            return bodies[kind]

        for kind in ["one deed", "all deeds", "one core", "all bodies and cores", "within an if", "within a try",
                     "within a guard", "within a core"]:
            for many in [30, 39, 40]:
                deeds, hooks = with_many(many, kind)
                self.assertEqual(len(made(deeds=deeds, hooks=hooks, open_deeds=[], powers=[])), many, kind)
            for many in [41, 42, 80]:
                deeds, hooks = with_many(many, kind)
                self.assert_too_many("statements", 40, lambda: made(deeds=deeds, hooks=hooks, open_deeds=[], powers=[]))

    def test_all_limits_at_once(self):
        deeds = [(f"d{at}", [Do("a")] * 7) for at in range(5)]
        hooks = {f"h{at}": [Do("a")] for at in range(3)}
        hooks["h3"] = [Do("a"), Do("a")]
        boxes = Boxes({"a": 2, "b": 2, "c": 2, "d": 2})
        host = Host(boxes, (1, 1, 1, 1), deeds, hooks, [name for name, _ in deeds], [])
        self.assertEqual([len(host), len(host.deeds()), len(host.hooks()), len(boxes)], [40, 5, 4, 16])
        self.assertEqual(len(host.all_powers()), 4 * (3 * (4 + 5 + 1) + 4))
        self.assertEqual((host + host.all_powers()).powers(), host.all_powers())


class TestPowers(Asserts):
    def all_of(self, hooks, boxes, deeds):
        found = []
        for hook in hooks:
            for rank, verbs in VERBS.items():
                for verb in verbs:
                    names = {"lend": boxes, "door": deeds}.get(verb, [""])
                    found += [(hook, rank, verb, name) for name in names]
        return sorted(found)

    def test_all_powers(self):
        self.assertEqual(made().all_powers(), self.all_of(["check", "audit"], ["busy", "paid"], ["pay", "back"]))
        host = made(hooks={}, deeds=[("a", [])], open_deeds=[], powers=[])
        self.assertEqual(host.all_powers(), [])
        host = made(hooks={"a10": [], "a2": [], "a": []}, deeds=[("b2", []), ("b10", []), ("b", [])], open_deeds=[], powers=[])
        self.assertEqual(host.all_powers(), self.all_of(["a10", "a2", "a"], ["busy", "paid"], ["b2", "b10", "b"]))
        self.assertEqual(host.all_powers(), sorted(host.all_powers()))

    def test_deeds_that_are_not_open_have_doors(self):
        host = made(open_deeds=[])
        self.assertIn(("check", "behind", "door", "back"), host.all_powers())
        self.assertIs(made(powers=[("check", "behind", "door", "back")], open_deeds=[]).lets(("check", "behind", "door", "back")), True)

    def test_powers_are_sorted(self):
        everything = made().all_powers()
        for powers in [everything, everything[::-1], tuple(everything[3:] + everything[:3])]:
            self.assertEqual(made(powers=powers).powers(), everything)

    def test_each_power_alone(self):
        for power in made().all_powers():
            host = made(powers=[power])
            self.assertEqual(host.powers(), [power])
            self.assertEqual([other for other in host.all_powers() if host.lets(other)], [power])

    def test_lets_any_value(self):
        host = made()
        for power in RIGHT["powers"]:
            self.assertIs(host.lets(power), True)
        right = RIGHT["powers"][0]
        wrong = [list(right), right[:3], right + ("",), ("check", "ahead", "lend", "busy"), (right,), "check ahead lend paid"]
        wrong += [tuple(odd if at == place else word for at, word in enumerate(right))
                  for place in range(4) for odd in [*no_strings(), "", "x", AlwaysEqual()]]
        for value in [*wrong, 0, "", *odd_values(), *containers()]:
            self.assertIs(host.lets(value), False)

    def test_sealed(self):
        host = made(powers=made().all_powers())
        everything = host.all_powers()
        for sealed in [[], everything[:1], everything[2:5], everything[::-1], tuple(everything[:3]), everything[::2]]:
            left = host - sealed
            self.assertEqual(left.powers(), [power for power in everything if power not in sealed])
            self.assertEqual(left, made(powers=left.powers()))
            self.assertEqual(left.all_powers(), everything)
        self.assertEqual(host.powers(), everything)

    def test_sealed_what_is_no_list_of_different_powers_of_the_host(self):
        host = made()
        mine, other = RIGHT["powers"], ("check", "ahead", "lend", "busy")
        wrong = [[other], [*mine, other], [mine[0], mine[0]], [mine[0], mine[1], mine[0]], [list(mine[0])], [mine[0], None]]
        wrong += [mine[0], {mine[0]: True}, {mine[0]}, iter(mine), [AlwaysEqual()], [("none", "ahead", "fail", "")]]
        for value in [*wrong, 0, "", {}, *odd_values(), ["a"], ("a",), [[]], ((),), [None], host]:
            self.assert_raised(InvalidPowers, value, lambda: host - value)
        self.assertEqual(host, made())

    def test_given(self):
        host = made()
        everything = host.all_powers()
        for given in [[], everything[:1], RIGHT["powers"], everything[::-1], tuple(everything[2:9]), everything[::3]]:
            more = host + given
            self.assertEqual(more.powers(), [power for power in everything if power in given or power in RIGHT["powers"]])
            self.assertEqual(more, made(powers=more.powers()))
        self.assertEqual(host, made())

    def test_given_what_is_no_list_of_different_powers(self):
        host = made()
        right = ("check", "ahead", "lend", "busy")
        wrong = [[right, right], [right, RIGHT["powers"][0], right], [list(right)], [("none", "ahead", "fail", "")], right]
        wrong += [[("check", "ahead", "skip", "")], [right, None], {right: True}, {right}, iter([right]), [AlwaysEqual()]]
        wrong += [[("check", "ahead", "lend", "none")], [("check", "ahead", "door", "busy")], [right[:3]], [right + ("",)]]
        for value in [*wrong, 0, "", {}, *odd_values(), ["a"], ("a",), [[]], ((),), [None], host]:
            self.assert_raised(InvalidPowers, value, lambda: host + value)

    def test_sealed_and_given_are_other_hosts_with_all_else(self):
        host = nested_host()
        bare = host - host.powers()
        self.assertEqual(bare.powers(), [])
        self.assertNotEqual(bare, host)
        self.assertEqual(bare + host.powers(), host)
        self.assertEqual([bare.deeds(), bare.hooks(), bare.open_deeds(), bare.first], [host.deeds(), host.hooks(), ["zero", "two"], (0, 2)])
        self.assertEqual([bare.body(deed) for deed in bare.deeds()], [host.body(deed) for deed in host.deeds()])
        self.assertEqual([bare.core(hook) for hook in bare.hooks()], [host.core(hook) for hook in host.hooks()])

    def test_nothing_else_is_sealed_or_given_to(self):
        for call in [lambda: [] - made(), lambda: [] + made(), lambda: made() * 2]:
            with self.assertRaises(TypeError):
                call()


class TestFromState(Asserts):
    def test_each_state(self):
        host = made()
        for state in host.boxes.states():
            moved = host.from_state(state)
            self.assertEqual([moved.first, moved], [state, made(first=state)])
            self.assertIs(moved == host, state == (0, 1))
        self.assertEqual([host.first, host.from_state(state=(1, 1)).first], [(0, 1), (1, 1)])

    def test_no_states(self):
        for value in [(0,), (0, 2), [0, 1], (0, True), "busy=0 paid=1", 0, *odd_values(), *containers()]:
            self.assert_raised(InvalidState, value, lambda: made().from_state(value))


class TestEquality(Asserts):
    def test_equal(self):
        self.assertIs(made() == made(), True)
        self.assertIs(made() != made(), False)
        self.assertEqual(nested_host(), nested_host())

    def test_what_makes_no_difference(self):
        same = [
            made(open_deeds=["pay", "back"]), made(open_deeds=("back", "pay")), made(powers=RIGHT["powers"][::-1]),
            made(powers=tuple(RIGHT["powers"])), made(hooks={"audit": [], "check": (Do("test"),)}),
            made(boxes=Boxes({"paid": 2, "busy": 2})), made(deeds=tuple(RIGHT["deeds"])),
        ]
        for host in same:
            self.assertIs(host == made(), True)
            self.assertIs(made() != host, False)

    def test_each_other_part_makes_a_difference(self):
        pay, back = RIGHT["deeds"]
        different = [
            made(), made(first=(0, 0)), made(boxes=Boxes({"busy": 2, "paid": 3})), made(open_deeds=["pay"]),
            made(open_deeds=[]), made(powers=[]), made(powers=RIGHT["powers"][:2]), made(hooks={"check": [], "audit": []}),
            made(hooks={"check": [Do("test")], "audit": [], "more": []}), made(deeds=[pay, ("back", [])]),
            made(deeds=[pay, back, ("more", [])]), made(powers=[("check", "ahead", "lend", "busy")]),
            made(deeds=[pay, ("back", [Do("undo"), Call("pay")])]), made(boxes=Boxes({"busy": 2, "paid": 2, "z": 2}), first=(0, 1, 0)),
        ]
        for at, one in enumerate(different):
            self.assertEqual([one == other for other in different], [at == place for place in range(len(different))])

    def test_the_sequence_of_the_deeds_makes_a_difference(self):
        one, other = ("a", []), ("b", [Do("x")])
        first = made(deeds=[one, other], open_deeds=["a"], powers=[])
        self.assertIs(first == made(deeds=[other, one], open_deeds=["a"], powers=[]), False)
        self.assertIs(first == made(deeds=[one, other], open_deeds=["a"], powers=[]), True)

    def test_values_of_other_kinds(self):
        host = pay_host()
        for other in [None, 0, "", [], {}, host.boxes, host.deeds(), Host, host.first, RIGHT, object()]:
            self.assertIs(host == other, False)
            self.assertIs(host != other, True)


if __name__ == "__main__":
    unittest.main()
