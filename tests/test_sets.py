"""Promises [2], [11] and the interface of hookvows/sets.py: sets of states."""

import itertools
import unittest

from hookvows.boxes import Boxes
from hookvows.errors import InvalidBoxes, InvalidState, InvalidStates, InvalidValue, OtherBoxes, UnknownBox
from hookvows.sets import States
from tests.samples import AlwaysEqual, NeverEqual, WRONG_NAMES, containers, no_integers, no_strings, odd_values


def pay_boxes():
    return Boxes({"busy": 2, "paid": 2})


def no_states(boxes):
    """Values that are no state of these boxes, which are two with two values."""
    wrong = [(0,), (0, 0, 0), (0, 2), (2, 0), (-1, 0), (0, True), (False, 0), [0, 0], "00", (0, "0"), (None, 0), ((0, 0),)]
    return [*wrong, *no_integers(), 0, 1, (AlwaysEqual(), 0), (0, NeverEqual())]


def all_sets(boxes):
    states = boxes.states()
    return [
        States(boxes, chosen) for many in range(len(states) + 1) for chosen in itertools.combinations(states, many)
    ]


class TestStates(unittest.TestCase):
    def setUp(self):
        self.boxes = pay_boxes()

    def test_the_example(self):
        boxes = Boxes({"busy": 2, "paid": 2})
        self.assertEqual(
            [boxes.states(), boxes.put((0, 0), "paid", 1), boxes.text((1, 0))],
            [[(0, 0), (0, 1), (1, 0), (1, 1)], (0, 1), "busy=1 paid=0"],
        )
        held = States.where(boxes, "busy", 1)
        self.assertEqual(
            [held.states(), (~held).states(), (held & States.where(boxes, "paid", 0)).states()],
            [[(1, 0), (1, 1)], [(0, 0), (0, 1)], [(1, 0)]],
        )

    def test_states_are_sorted_and_each_stands_once(self):
        for passed in [[(1, 0), (0, 1), (1, 0)], ((1, 0), (0, 1), (0, 1)), [(0, 1), (1, 0)]]:
            made = States(self.boxes, passed)
            self.assertEqual(made.states(), [(0, 1), (1, 0)])
            self.assertEqual(len(made), 2)
        for passed in [[], ()]:
            self.assertEqual(States(self.boxes, passed).states(), [])
            self.assertEqual(len(States(self.boxes, passed)), 0)
        boxes = Boxes({"b": 4, "a": 3})
        self.assertEqual(States(boxes, boxes.states()[::-1]).states(), boxes.states())

    def test_by_name(self):
        self.assertEqual(States(states=[(0, 0)], boxes=self.boxes).states(), [(0, 0)])
        self.assertEqual(len(States.every(boxes=self.boxes)), 4)
        self.assertEqual(States.where(self.boxes, "busy", 0).boxes, self.boxes)

    def test_boxes(self):
        self.assertEqual(States(self.boxes, []).boxes, pay_boxes())
        self.assertIsInstance(vars(States)["boxes"], property)
        with self.assertRaises(AttributeError):
            States(self.boxes, []).boxes = self.boxes

    def test_in(self):
        made = States(self.boxes, [(0, 1), (1, 1)])
        self.assertTrue((0, 1) in made and (1, 1) in made)
        self.assertFalse((0, 0) in made or (1, 0) in made)
        for value in no_states(self.boxes):
            self.assertIs(value in made, False)
            self.assertIs(value in States.every(self.boxes), False)
        self.assertIs((1, 1) in made, True)

    def test_what_is_passed_and_told_is_copied(self):
        passed = [(0, 0)]
        made = States(self.boxes, passed)
        passed.append((1, 1))
        made.states().append((0, 1))
        self.assertEqual(made.states(), [(0, 0)])
        self.assertEqual(passed, [(0, 0), (1, 1)])

    def test_every(self):
        self.assertEqual(States.every(self.boxes).states(), self.boxes.states())
        for value in [None, {"a": 2}, States(self.boxes, []), *odd_values()]:
            with self.assertRaises(InvalidBoxes) as caught:
                States.every(value)
            self.assertIs(caught.exception.value, value)

    def test_where(self):
        boxes = Boxes({"a": 3, "b": 2})
        self.assertEqual(States.where(boxes, "a", 2).states(), [(2, 0), (2, 1)])
        self.assertEqual(States.where(boxes, "a", 2, 0).states(), [(0, 0), (0, 1), (2, 0), (2, 1)])
        self.assertEqual(States.where(boxes, "b", 1, 1).states(), [(0, 1), (1, 1), (2, 1)])
        self.assertEqual(States.where(boxes, "b").states(), [])
        self.assertEqual(States.where(boxes, "b", 0, 1), States.every(boxes))

    def test_errors_of_where(self):
        for value in [None, *odd_values()]:
            with self.assertRaises(InvalidBoxes):
                States.where(value, None, None)
        for value in ["c", *WRONG_NAMES, *no_strings(), *containers()]:
            with self.assertRaises(UnknownBox) as caught:
                States.where(self.boxes, value, 7)
            self.assertIs(caught.exception.value, value)
        with self.assertRaises(UnknownBox):
            States.where(self.boxes, "c")
        for value in [2, -1, 10 ** 29, *no_integers()]:
            with self.assertRaises(InvalidValue) as caught:
                States.where(self.boxes, "busy", 0, value, None)
            self.assertIs(caught.exception.value, value)

    def test_errors_of_the_constructor(self):
        for value in [None, {"busy": 2}, *odd_values(), *containers()]:
            with self.assertRaises(InvalidBoxes) as caught:
                States(value, None)
            self.assertIs(caught.exception.value, value)
        for value in [None, {(0, 0): 1}, {(0, 0)}, "", States.every(self.boxes), self.boxes, iter([]), 0, *odd_values()]:
            with self.assertRaises(InvalidStates) as caught:
                States(self.boxes, value)
            self.assertIs(caught.exception.value, value)
        for value in no_states(self.boxes):
            for passed in [[value], ((0, 0), value, None), [(1, 1), (1, 1), value, (5, 5)]]:
                with self.assertRaises(InvalidState) as caught:
                    States(self.boxes, passed)
                self.assertIs(caught.exception.value, value)


class TestOperators(unittest.TestCase):
    def setUp(self):
        self.boxes = pay_boxes()

    def test_all_pairs(self):
        sets = all_sets(self.boxes)
        others = all_sets(pay_boxes())
        for one, other in itertools.product(sets, others):
            left, right = set(one.states()), set(other.states())
            self.assertEqual((one & other).states(), sorted(left & right))
            self.assertEqual((one | other).states(), sorted(left | right))
            self.assertEqual((one - other).states(), sorted(left - right))
            self.assertIs(one <= other, left <= right)
            self.assertIs(one < other, left < right)
            self.assertIs(one == other, left == right)
            self.assertIs(one != other, left != right)

    def test_all_other_states(self):
        for made in all_sets(self.boxes):
            self.assertEqual((~made).states(), [state for state in self.boxes.states() if state not in made.states()])
            self.assertEqual(~~made, made)
            self.assertEqual((~made).boxes, self.boxes)

    def test_what_is_made_is_a_states_and_nothing_changes(self):
        one, other = States.where(self.boxes, "busy", 1), States.where(self.boxes, "paid", 1)
        for made in [one & other, one | other, one - other, ~one]:
            self.assertIsInstance(made, States)
            self.assertEqual(made.boxes, self.boxes)
        self.assertEqual([one.states(), other.states()], [[(1, 0), (1, 1)], [(0, 1), (1, 1)]])

    def operations(self):
        return [
            lambda one, other: one & other, lambda one, other: one | other, lambda one, other: one - other,
            lambda one, other: one <= other, lambda one, other: one < other,
        ]

    def test_what_stands_on_the_right_side(self):
        wrong = [None, [(0, 0)], {(0, 0)}, (0, 0), 0, True, self.boxes, "a", *odd_values()]
        for operation in self.operations():
            for value in wrong:
                if isinstance(value, AlwaysEqual):
                    continue
                with self.assertRaises(InvalidStates) as caught:
                    operation(States.every(self.boxes), value)
                self.assertIs(caught.exception.value, value)

    def test_other_boxes(self):
        for sizes in [{"busy": 2, "paid": 3}, {"busy": 2}, {"busy": 2, "sold": 2}, {"a": 4}]:
            boxes = Boxes(sizes)
            for operation in self.operations():
                for one, other in [(States.every(self.boxes), States(boxes, []))]:
                    with self.assertRaises(OtherBoxes) as caught:
                        operation(one, other)
                    self.assertEqual([caught.exception.one, caught.exception.other], [self.boxes, boxes])
                    self.assertIsInstance(caught.exception.other, Boxes)
            self.assertFalse(States(self.boxes, []) == States(boxes, []))

    def test_not_equal_to_values_of_another_kind(self):
        made = States(self.boxes, [(0, 0)])
        for value in [[(0, 0)], {(0, 0)}, ((0, 0),), None, 0, self.boxes, NeverEqual(), *containers()]:
            self.assertFalse(made == value)
            self.assertTrue(made != value)

    def test_states_are_not_iterated_over(self):
        with self.assertRaises(TypeError):
            list(States.every(self.boxes))
