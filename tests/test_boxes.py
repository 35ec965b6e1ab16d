"""Promises [2] and [11]: boxes, their sizes, their states and the texts of these."""

import itertools
import unittest

from hookvows.boxes import Boxes
from hookvows.errors import InvalidSizes, InvalidState, InvalidValue, TooMany, UnknownBox
from tests.samples import WRONG_NAMES, containers, no_integers, no_strings, odd_values

PAY = {"paid": 2, "busy": 2}
MIXED = {"c": 2, "a": 3, "b": 2}
ALL_SIZES = [sizes for many in range(1, 5) for sizes in itertools.product([2, 3, 4], repeat=many)]


def product_of(sizes):
    found = 1
    for size in sizes:
        found *= size
    return found


def named(sizes):
    """Boxes with these sizes, named so that they are passed in a sequence that is not sorted."""
    return dict(reversed(list(zip(["a", "b", "c1", "c2", "d"], sizes))))


def no_states(boxes):
    """Values of all kinds that are no states of the boxes."""
    many = len(boxes.names())
    zeros = (0,) * many
    near = [list(zeros), zeros + (0,), zeros[1:], (), boxes.text(zeros), dict(enumerate(zeros)), (zeros,), iter(zeros)]
    for place, name in enumerate(boxes.names()):
        for part in [*no_integers(), boxes.size(name), boxes.size(name) + 1, 10 ** 29, -1, -boxes.size(name), (0,)]:
            near.append(zeros[:place] + (part,) + zeros[place + 1:])
    return [*near, 0, "", "a", *odd_values(), [], {}, [0], (None,) * many, ("0",) * many]


class TestMaking(unittest.TestCase):
    def test_each_number_of_boxes_with_each_size(self):
        for sizes in ALL_SIZES:
            if product_of(sizes) <= 16:
                boxes = Boxes(named(sizes))
                self.assertEqual(len(boxes), product_of(sizes))
                self.assertEqual([boxes.size(name) for name in boxes.names()], list(sizes))

    def test_sixteen_states_are_reached(self):
        for sizes in [(4, 4), (2, 2, 4), (2, 4, 2), (4, 2, 2), (2, 2, 2, 2)]:
            self.assertEqual(len(Boxes(named(sizes))), 16)

    def test_more_than_sixteen_states_are_too_many(self):
        for sizes in ALL_SIZES:
            if product_of(sizes) > 16:
                with self.assertRaises(TooMany) as caught:
                    Boxes(named(sizes))
                self.assertEqual((caught.exception.what, caught.exception.limit), ("states", 16))

    def test_more_than_four_boxes_are_too_many_ahead_of_the_states(self):
        for many in [5, 6, 30, 400]:
            with self.assertRaises(TooMany) as caught:
                Boxes({f"a{at}": 2 for at in range(many)})
            self.assertEqual((caught.exception.what, caught.exception.limit), ("boxes", 4))

    def test_invalid_sizes_are_told_ahead_of_both(self):
        boxes = {"a": 2, "b": 2, "c": 2, "d": 2}
        states = {"a": 4, "b": 4}
        for wrong in [{**boxes, "e": 5}, {**boxes, "E": 2}, {**states, "c": True}, {**states, 0: 2}]:
            with self.assertRaises(InvalidSizes) as caught:
                Boxes(wrong)
            self.assertEqual(caught.exception.value, wrong)

    def assert_invalid(self, wrong):
        with self.assertRaises(InvalidSizes) as caught:
            Boxes(wrong)
        self.assertIs(caught.exception.value, wrong)

    def test_sizes_are_a_dict_that_is_not_empty(self):
        for wrong in [0, 1, "", "a", {}, [], (), ["a"], [("a", 2)], (("a", 2),), {"a"}, *odd_values()]:
            self.assert_invalid(wrong)

    def test_keys_are_names(self):
        for name in [*WRONG_NAMES, None, True, 0, 1, ("a",), (), b"a", frozenset(["a"])]:
            self.assert_invalid({name: 2})
            self.assert_invalid({"a": 2, name: 2})
            self.assert_invalid({name: 2, "a": 2})

    def test_sizes_are_integers_from_two_to_four(self):
        for size in [1, 0, -1, -2, -3, 5, 6, 10 ** 29, *no_integers()]:
            self.assert_invalid({"a": size})
            self.assert_invalid({"a": 2, "b": size})
            self.assert_invalid({"b": size, "a": 2})

    def test_class_values(self):
        self.assertEqual((Boxes.MOST_BOXES, Boxes.MOST_VALUES, Boxes.MOST_STATES), (4, 4, 16))
        boxes = Boxes(PAY)
        self.assertEqual((boxes.MOST_BOXES, boxes.MOST_VALUES, boxes.MOST_STATES), (4, 4, 16))

    def test_by_name(self):
        self.assertEqual(Boxes(sizes=PAY).names(), ["busy", "paid"])


class TestNamesAndSizes(unittest.TestCase):
    def test_names_are_sorted_whatever_the_sequence(self):
        for names in itertools.permutations(["b", "a", "a1", "a0"]):
            self.assertEqual(Boxes({name: 2 for name in names}).names(), ["a", "a0", "a1", "b"])

    def test_sizes(self):
        boxes = Boxes({"b": 2, "a": 3})
        self.assertEqual([boxes.size("a"), boxes.size("b"), boxes.size(box="b")], [3, 2, 2])

    def test_unknown_boxes(self):
        for value in ["c", "A", "ab", "", "a ", *WRONG_NAMES, *no_strings()]:
            with self.assertRaises(UnknownBox) as caught:
                Boxes({"b": 2, "a": 3}).size(value)
            self.assertIs(caught.exception.value, value)


class TestStates(unittest.TestCase):
    def test_states_of_the_document(self):
        self.assertEqual(Boxes(PAY).states(), [(0, 0), (0, 1), (1, 0), (1, 1)])

    def test_one_box(self):
        self.assertEqual(Boxes({"a": 4}).states(), [(0,), (1,), (2,), (3,)])

    def test_all_states_stand_sorted_once_in_the_sequence_of_the_names(self):
        for sizes in ALL_SIZES:
            if product_of(sizes) <= 16:
                wanted = sorted(itertools.product(*[range(size) for size in sizes]))
                self.assertEqual(Boxes(named(sizes)).states(), wanted)

    def test_each_state_is_in_the_boxes_and_is_a_tuple_of_integers(self):
        boxes = Boxes(MIXED)
        for state in boxes.states():
            self.assertIs(state in boxes, True)
            self.assertEqual([state.__class__, *[part.__class__ for part in state]], [tuple, int, int, int])

    def test_all_else_is_not(self):
        for boxes in [Boxes({"a": 4}), Boxes(PAY), Boxes(MIXED), Boxes(named((2, 2, 2, 2)))]:
            for value in no_states(boxes):
                self.assertIs(value in boxes, False, value)

    def test_states_of_other_boxes_are_not(self):
        self.assertIs((2, 0, 0) in Boxes(MIXED), True)
        self.assertIs((0, 2, 0) in Boxes(MIXED), False)
        self.assertIs((0, 0, 2) in Boxes(MIXED), False)


class TestValues(unittest.TestCase):
    def test_value_of(self):
        boxes = Boxes(MIXED)
        for state in boxes.states():
            self.assertEqual(tuple([boxes.value_of(state, box) for box in ["a", "b", "c"]]), state)
        self.assertEqual(boxes.value_of((2, 0, 1), "a"), 2)
        self.assertEqual(boxes.value_of(box="c", state=(2, 0, 1)), 1)

    def test_put(self):
        boxes = Boxes(MIXED)
        for state in boxes.states():
            for place, box in enumerate(["a", "b", "c"]):
                for value in range(boxes.size(box)):
                    wanted = tuple([value if at == place else part for at, part in enumerate(state)])
                    self.assertEqual(boxes.put(state, box, value), wanted)
                    self.assertIn(boxes.put(state, box, value), boxes)

    def test_put_of_the_document_and_by_name(self):
        self.assertEqual(Boxes(PAY).put((0, 0), "paid", 1), (0, 1))
        self.assertEqual(Boxes(PAY).put(value=1, box="busy", state=(0, 1)), (1, 1))

    def test_invalid_states(self):
        boxes = Boxes(MIXED)
        for state in no_states(boxes):
            for box, value in [("a", 0), ("d", 0), ("a", 9), (None, None)]:
                with self.assertRaises(InvalidState) as caught:
                    boxes.put(state, box, value)
                self.assertIs(caught.exception.value, state)
                with self.assertRaises(InvalidState) as caught:
                    boxes.value_of(state, box)
                self.assertIs(caught.exception.value, state)

    def test_unknown_boxes(self):
        boxes = Boxes(MIXED)
        for box in ["d", "A", "ab", *WRONG_NAMES, *no_strings()]:
            for value in [0, 9, None]:
                with self.assertRaises(UnknownBox) as caught:
                    boxes.put((0, 0, 0), box, value)
                self.assertIs(caught.exception.value, box)
            with self.assertRaises(UnknownBox) as caught:
                boxes.value_of((0, 0, 0), box)
            self.assertIs(caught.exception.value, box)

    def test_invalid_values(self):
        boxes = Boxes(MIXED)
        for box, size in MIXED.items():
            for value in [size, size + 1, 4, 10 ** 29, -1, -2, *no_integers()]:
                with self.assertRaises(InvalidValue) as caught:
                    boxes.put((0, 0, 0), box, value)
                self.assertIs(caught.exception.value, value)


class TestTexts(unittest.TestCase):
    def test_texts_of_the_document(self):
        self.assertEqual(Boxes(PAY).text((1, 0)), "busy=1 paid=0")
        self.assertEqual(Boxes(PAY).read("busy=1 paid=0"), (1, 0))

    def test_texts_have_each_box_in_sorted_order(self):
        self.assertEqual(Boxes(MIXED).text((2, 0, 1)), "a=2 b=0 c=1")
        self.assertEqual(Boxes({"a": 4}).text(state=(3,)), "a=3")

    def test_each_text_reads_as_its_state(self):
        for sizes in ALL_SIZES:
            if product_of(sizes) <= 16:
                boxes = Boxes(named(sizes))
                for state in boxes.states():
                    self.assertEqual(boxes.read(text=boxes.text(state)), state)

    def test_text_of_no_state(self):
        for boxes in [Boxes({"a": 4}), Boxes(MIXED)]:
            for value in no_states(boxes):
                with self.assertRaises(InvalidState) as caught:
                    boxes.text(value)
                self.assertIs(caught.exception.value, value)

    def test_texts_that_are_nearly_right(self):
        wrong = [
            "", " ", "\n", "busy=1", "paid=0", "paid=0 busy=1", " busy=1 paid=0", "busy=1 paid=0 ", "busy=1  paid=0",
            "busy=1 paid=0\n", "busy=1\npaid=0", "busy=1, paid=0", "busy=1,paid=0", "busy=1paid=0", "busy =1 paid=0",
            "busy= 1 paid=0", "busy=1 paid=", "busy=1 paid", "busy=2 paid=0", "busy=1 paid=2", "busy=-1 paid=0",
            "busy=+1 paid=0", "busy=01 paid=0", "busy=1 paid=00", "busy=True paid=False", "Busy=1 paid=0",
            "BUSY=1 PAID=0", "busy=1 paid=0 paid=0", "busy=1 busy=1", "busy=1 paid=0 other=0", "busy:1 paid:0", "1 0",
            "(1, 0)", "busy==1 paid=0", "busy=1 paid=0 busy=1 paid=0", "'busy=1 paid=0'", "busy=1 paid=0\t",
            "busy=1.0 paid=0",
        ]
        for text in wrong:
            with self.assertRaises(InvalidState) as caught:
                Boxes(PAY).read(text)
            self.assertEqual(caught.exception.value, text)

    def test_values_that_are_no_texts(self):
        for value in [(1, 0), ["busy=1", "paid=0"], *no_strings()]:
            with self.assertRaises(InvalidState) as caught:
                Boxes(PAY).read(value)
            self.assertIs(caught.exception.value, value)


class TestEquality(unittest.TestCase):
    def test_equal_names_and_sizes(self):
        self.assertIs(Boxes({"a": 2, "b": 3}) == Boxes({"b": 3, "a": 2}), True)
        self.assertIs(Boxes({"a": 2, "b": 3}) != Boxes({"b": 3, "a": 2}), False)
        self.assertIs(Boxes({"a": 4}) == Boxes({"a": 4}), True)

    def test_other_names_or_sizes(self):
        boxes = Boxes({"a": 2, "b": 3})
        more = {"a": 2, "b": 3, "c": 2}
        for other in [{"a": 3, "b": 2}, {"a": 2, "b": 2}, {"a": 2}, {"b": 3}, {"a": 2, "c": 3}, more]:
            self.assertIs(boxes == Boxes(other), False)
            self.assertIs(boxes != Boxes(other), True)

    def test_values_of_other_kinds(self):
        boxes = Boxes({"a": 2, "b": 3})
        for other in [{"a": 2, "b": 3}, boxes.names(), boxes.states(), 6, None, "a", ("a", 2), object()]:
            self.assertIs(boxes == other, False)
            self.assertIs(other == boxes, False)
            self.assertIs(boxes != other, True)


class TestCopies(unittest.TestCase):
    def test_changes_of_the_sizes_make_no_difference(self):
        sizes = {"b": 2, "a": 3}
        boxes = Boxes(sizes)
        sizes["a"] = 4
        sizes["c"] = 2
        del sizes["b"]
        self.assertEqual(boxes, Boxes({"b": 2, "a": 3}))
        self.assertEqual([boxes.names(), boxes.size("a"), boxes.size("b"), len(boxes)], [["a", "b"], 3, 2, 6])
        self.assertIs((3, 0) in boxes, False)
        self.assertEqual(boxes.text((2, 1)), "a=2 b=1")

    def test_changes_of_what_is_returned_make_no_difference(self):
        boxes = Boxes(PAY)
        boxes.names().append("z")
        boxes.names().reverse()
        boxes.states().clear()
        self.assertEqual(boxes.names(), ["busy", "paid"])
        self.assertEqual(boxes.states(), [(0, 0), (0, 1), (1, 0), (1, 1)])
        self.assertEqual(len(boxes), 4)

    def test_the_arguments_are_not_changed(self):
        sizes = {"b": 2, "a": 3}
        Boxes(sizes)
        self.assertEqual(list(sizes.items()), [("b", 2), ("a", 3)])

    def test_a_call_that_raises_an_error_changes_nothing(self):
        boxes = Boxes(PAY)
        for call in [lambda: boxes.put((0, 0), "busy", 2), lambda: boxes.read("busy=1"), lambda: boxes.size("z")]:
            with self.assertRaises((InvalidValue, InvalidState, UnknownBox)):
                call()
        self.assertEqual([boxes.names(), boxes.states()], [Boxes(PAY).names(), Boxes(PAY).states()])

    def test_boxes_are_independent(self):
        one = Boxes(PAY)
        Boxes({"a": 4})
        self.assertEqual(one.names(), ["busy", "paid"])


class TestContainers(unittest.TestCase):
    def test_containers_are_no_states_and_no_boxes(self):
        boxes = Boxes({"a": 2})
        for value in containers():
            if value != (0,):
                self.assertIs(value in boxes, False, value)
                with self.assertRaises(InvalidState):
                    boxes.text(value)
            with self.assertRaises(UnknownBox):
                boxes.size(value)
