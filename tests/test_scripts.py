"""Promises [2], [31], [33] and [35]: acts, scripts and plays."""

import unittest

from hookvows.errors import InvalidPlay, InvalidScript
from hookvows.scripts import Play, Script, is_act
from tests.samples import RIGHT_NAMES, WRONG_NAMES, AlwaysEqual, NeverEqual, containers, no_integers, no_strings, odd_values

PLAIN = [("look",), ("inner",), ("swallow",), ("answer",), ("skip",), ("fail",)]
ACTS = [*PLAIN, ("door", "pay"), *[("lend", "busy", value) for value in range(4)]]


def no_acts():
    """Values of all kinds that are no acts."""
    wrong = ["look", "door", ["look"], ["lend", "busy", 1], ["door", "pay"], (), ("",), ("Look",), ("look ",), ("open",)]
    wrong += [(act[0], extra) for act in PLAIN for extra in ["", "pay", None, 0, ()]]
    wrong += [("lend",), ("lend", "busy"), ("lend", "busy", 1, 1), ("door",), ("door", "pay", "pay"), ("pay",), ("again",)]
    wrong += [("lend", "busy", value) for value in [4, 5, -1, 10 ** 29, *no_integers()]]
    wrong += [("lend", name, 1) for name in [*WRONG_NAMES, *no_strings()]]
    wrong += [("door", name) for name in [*WRONG_NAMES, *no_strings()]]
    wrong += [(word,) for word in no_strings()] + [(word, "busy", 1) for word in no_strings()]
    wrong += [(("look",),), {"look": True}, {"look"}, iter(("look",)), ("look", "look"), (("look",), ("look",))]
    return [*wrong, 0, 1, True, "", *odd_values(), *containers()]


class TestActs(unittest.TestCase):
    def test_acts(self):
        for act in ACTS:
            self.assertIs(is_act(act), True)
        for name in RIGHT_NAMES:
            self.assertIs(is_act(("door", name)), True)
            self.assertIs(is_act(("lend", name, 3)), True)

    def test_what_is_none(self):
        for value in no_acts():
            self.assertIs(is_act(value), False, repr(value))

    def test_by_name(self):
        self.assertIs(is_act(value=("look",)), True)


class TestScripts(unittest.TestCase):
    def test_rows(self):
        for rows in [[], [[]], [[], []], [ACTS], [[act] for act in ACTS], [[], ACTS, [], [("look",)]]]:
            script = Script(*rows)
            self.assertEqual(script.rows(), rows)
            self.assertEqual(len(script), len(rows))
            self.assertEqual(script.cost, sum(len(row) for row in rows))

    def test_rows_are_lists_of_lists_of_tuples(self):
        script = Script((("look",), ("door", "pay")), (), [("skip",)])
        self.assertEqual(script.rows(), [[("look",), ("door", "pay")], [], [("skip",)]])
        self.assertEqual([row.__class__ for row in script.rows()], [list] * 3)
        self.assertEqual([act.__class__ for row in script.rows() for act in row], [tuple] * 3)

    def test_what_is_passed_and_told_is_copied(self):
        row = [("look",)]
        script = Script(row, row)
        row.append(("fail",))
        self.assertEqual(script.rows(), [[("look",)], [("look",)]])
        script.rows().append([])
        script.rows()[0].clear()
        self.assertEqual([script.rows(), len(script), script.cost], [[[("look",)], [("look",)]], 2, 2])
        self.assertEqual(row, [("look",), ("fail",)])

    def test_the_first_row_that_is_none_decides(self):
        wrong = ["", "look", None, 0, ("look",), [("look",), None], [["look"]], {}, {"look": True}, [("door", "Pay")]]
        wrong += [iter([]), (("look",), ["look"]), [("lend", "busy", True)], [[]], [()], {("look",)}, {("look",): True}]
        wrong += odd_values()
        for row in wrong:
            for ahead in [[], [[]], [[("look",)], ()], [[]] * 7]:
                for behind in [[], [[]], [None, "x"]]:
                    with self.assertRaises(InvalidScript) as caught:
                        Script(*ahead, row, *behind)
                    self.assertEqual(caught.exception.position, len(ahead))
                    self.assertIs(caught.exception.position.__class__, int)

    def test_no_acts_at_any_place_of_a_row(self):
        for value in no_acts():
            for place in range(3):
                row = [("look",)] * 3
                row[place] = value
                with self.assertRaises(InvalidScript) as caught:
                    Script([], row)
                self.assertEqual(caught.exception.position, 1)

    def test_sums(self):
        one, other = Script([("look",)], []), Script([("skip",), ("fail",)])
        self.assertEqual((one + other).rows(), [[("look",)], [], [("skip",), ("fail",)]])
        self.assertEqual((other + one).rows(), [[("skip",), ("fail",)], [("look",)], []])
        self.assertEqual([(one + other).cost, len(one + other), (one + one).cost], [3, 3, 2])
        self.assertEqual([one + Script(), Script() + one, Script() + Script()], [one, one, Script()])
        self.assertEqual([one.rows(), other.rows()], [[[("look",)], []], [[("skip",), ("fail",)]]])
        self.assertIsInstance(one + other, Script)

    def test_sums_with_anything_else(self):
        for value in [[], (), [[]], [[("look",)]], 0, "", Play([], Script()), Script, *odd_values(), *containers()]:
            with self.assertRaises(InvalidScript) as caught:
                Script([]) + value
            self.assertIsNone(caught.exception.position)

    def test_equality(self):
        rows = [[], [[]], [[], []], [[("look",)]], [[("look",)], []], [[], [("look",)]], [[("look",), ("look",)]],
                [[("look",)], [("look",)]], [[("lend", "a", 0)]], [[("lend", "a", 1)]], [[("lend", "b", 0)]], [[("door", "a")]]]
        for at, one in enumerate(rows):
            self.assertEqual([Script(*one) == Script(*other) for other in rows], [at == place for place in range(len(rows))])
            self.assertEqual([Script(*one) != Script(*other) for other in rows], [at != place for place in range(len(rows))])
        self.assertEqual(Script([("look",)]), Script((("look",),)))
        for other in [[], [[("look",)]], None, 0, "", object(), NeverEqual(), Script]:
            self.assertIs(Script([("look",)]) == other, False)
            self.assertIs(Script([("look",)]) != other, True)

    def test_the_cost_is_not_assigned(self):
        with self.assertRaises(AttributeError):
            Script().cost = 1


class TestPlays(unittest.TestCase):
    def test_plays(self):
        script = Script([("look",)], [], [("door", "pay"), ("fail",)])
        for calls in [[], ["pay"], ["pay", "pay", "back"], ["a"] * 40]:
            play = Play(calls, script)
            self.assertEqual([play.calls(), play.script, play.cost], [calls, script, len(calls) + 3])
        self.assertEqual([Play([], Script()).cost, Play(["a"], Script([], [])).cost], [0, 1])
        self.assertEqual(Play(script=script, calls=("a", "b")).calls(), ["a", "b"])
        self.assertIs(Play(("a",), script).calls().__class__, list)

    def test_what_is_passed_and_told_is_copied(self):
        calls = ["pay"]
        play = Play(calls, Script())
        calls.append("back")
        play.calls().clear()
        self.assertEqual([play.calls(), play.cost, calls], [["pay"], 1, ["pay", "back"]])

    def test_no_calls(self):
        wrong = ["", "pay", None, 0, {"pay": True}, {"pay"}, iter(["pay"]), ["pay", None], [["pay"]], [("pay",)], [True], [0]]
        wrong += [[name] for name in [*WRONG_NAMES, *no_strings()]] + [["pay", name] for name in WRONG_NAMES]
        for calls in [*wrong, *odd_values(), [AlwaysEqual()]]:
            for script in [Script(), None, []]:
                with self.assertRaises(InvalidPlay) as caught:
                    Play(calls, script)
                self.assertIs(caught.exception.value, calls)

    def test_no_script(self):
        for script in [[], [[]], [[("look",)]], 0, "", Script, Play([], Script()), *odd_values(), *containers()]:
            with self.assertRaises(InvalidScript) as caught:
                Play(["pay"], script)
            self.assertIsNone(caught.exception.position)

    def test_equality(self):
        parts = [([], []), (["a"], []), (["b"], []), (["a", "b"], []), (["b", "a"], []), (["a"], [[]]), (["a"], [[("look",)]])]
        plays = [Play(calls, Script(*rows)) for calls, rows in parts]
        for at, one in enumerate(plays):
            self.assertEqual([one == other for other in plays], [at == place for place in range(len(plays))])
        for calls, rows in parts:
            self.assertIs(Play(tuple(calls), Script(*rows)) == Play(calls, Script(*rows)), True)
            self.assertIs(Play(tuple(calls), Script(*rows)) != Play(calls, Script(*rows)), False)
        for other in [None, 0, "", [], Script(), ["a"], (["a"], Script()), object(), NeverEqual(), Play]:
            self.assertIs(Play(["a"], Script()) == other, False)
            self.assertIs(Play(["a"], Script()) != other, True)

    def test_nothing_is_assigned(self):
        for name in ["script", "cost"]:
            with self.assertRaises(AttributeError):
                setattr(Play([], Script()), name, None)
