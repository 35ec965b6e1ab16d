"""Promises [2] and [21]: the statements and their parts."""

import unittest

from hookvows.errors import InvalidBody, InvalidName, InvalidValue
from hookvows.statements import Call, Do, Fail, Fire, Guard, If, Last, Put, Statement
from tests.samples import RIGHT_NAMES, WRONG_NAMES, no_integers, no_strings, odd_values

KINDS = [Do, Put, Fire, Call, If, Last, Guard, Fail]


def one_of_each():
    """A statement of each kind."""
    return [
        Do("a"), Put("a", 1), Fire("a"), Call("a"), If("a", 1, [Do("b")], [Fail()]), Last([Do("b")], [Fail()]),
        Guard([Do("b")], [Fail()]), Fail(),
    ]


def no_bodies():
    """Values of all kinds that are no lists of statements."""
    wrong = [
        0, 1, True, False, "", "a", {}, {"a": 1}, Do("a"), Fail(), {Ellipsis: Do("a")}, Do, ["a"], ("a",), [None], [Do],
        [[]], [()], [[Do("a")]], [(Do("a"),)], ([Do("a")],), [0], [True], iter([Do("a")]), {0: Do("a")}, [Statement],
    ]
    for part in [None, "a", 1, [], (), [Do("a")], ("do", "a"), Do, object()]:
        wrong += [[part, Do("a")], [Do("a"), part], [Do("a"), part, Fail()], (Do("a"), part)]
    return wrong + odd_values()


class TestKinds(unittest.TestCase):
    def test_each_is_a_statement_and_of_no_other_kind(self):
        for made, kind in zip(one_of_each(), KINDS):
            self.assertIsInstance(made, Statement)
            self.assertEqual([other for other in KINDS if isinstance(made, other)], [kind])
            self.assertEqual(kind.__bases__, (Statement,))

    def test_properties_of_names(self):
        for name in RIGHT_NAMES:
            self.assertEqual(Do(name).step, name)
            self.assertEqual(Put(name, 0).box, name)
            self.assertEqual(Fire(name).hook, name)
            self.assertEqual(Call(name).deed, name)
            self.assertEqual(If(name, 0, []).box, name)

    def test_properties_of_values(self):
        for value in range(4):
            self.assertEqual(Put("a", value).value, value)
            self.assertEqual(If("a", value, []).value, value)

    def test_value_is_an_attribute_of_each_object(self):
        # A property of this name with a setter would be run by each error that keeps a value.
        for kind, made in [(Put, Put("a", 3)), (If, If("a", 3, []))]:
            self.assertEqual(vars(made)["value"], 3)
            self.assertNotIn("value", vars(kind))

    def test_each_has_the_properties_of_its_parameters_alone(self):
        wanted = {Do: ["step"], Put: ["box", "value"], Fire: ["hook"], Call: ["deed"], If: ["box", "value"]}
        for made, kind in zip(one_of_each(), KINDS):
            there = [name for name in ["step", "box", "value", "hook", "deed"] if hasattr(made, name)]
            self.assertEqual(sorted(there), sorted(wanted.get(kind, [])))

    def test_properties_are_not_assigned(self):
        for made in one_of_each():
            for name in ["step", "box", "hook", "deed"]:
                if hasattr(made, name):
                    with self.assertRaises(AttributeError):
                        setattr(made, name, "b")

    def test_by_name(self):
        self.assertEqual(Do(step="a"), Do("a"))
        self.assertEqual(Put(value=1, box="a"), Put("a", 1))
        self.assertEqual(Fire(hook="a"), Fire("a"))
        self.assertEqual(Call(deed="a"), Call("a"))
        made = If(other=[Fail()], body=[Do("b")], value=1, box="a")
        self.assertEqual(made, If("a", 1, [Do("b")], [Fail()]))
        self.assertEqual(If("a", 1, body=[Do("b")]), If("a", 1, [Do("b")]))
        self.assertEqual(Last(last=[Fail()], body=[Do("b")]), Last([Do("b")], [Fail()]))
        self.assertEqual(Guard(other=[Fail()], body=[Do("b")]), Guard([Do("b")], [Fail()]))

    def test_fail_takes_nothing(self):
        for arguments in [("a",), (None,), ([],)]:
            with self.assertRaises(TypeError):
                Fail(*arguments)


class TestBodies(unittest.TestCase):
    def test_statements_without_bodies(self):
        for made in [Do("a"), Put("a", 1), Fire("a"), Call("a"), Fail()]:
            self.assertEqual(made.bodies(), [])

    def test_bodies_in_the_sequence_of_the_parameters(self):
        one, two = [Do("a"), Do("b")], [Fail()]
        self.assertEqual(If("a", 1, one, two).bodies(), [one, two])
        self.assertEqual(Last(one, two).bodies(), [one, two])
        self.assertEqual(Guard(one, two).bodies(), [one, two])

    def test_the_other_body_left_out_is_empty(self):
        self.assertEqual(If("a", 1, [Do("a")]).bodies(), [[Do("a")], []])
        self.assertEqual(Guard([Do("a")]).bodies(), [[Do("a")], []])
        with self.assertRaises(TypeError):
            Last([Do("a")])

    def test_empty_bodies(self):
        for made in [If("a", 1, [], []), If("a", 1, ()), Last([], ()), Guard((), []), Guard([])]:
            self.assertEqual(made.bodies(), [[], []])

    def test_tuples_as_bodies(self):
        one, two = (Do("a"), Do("b")), (Fail(),)
        for made in [If("a", 1, one, two), Last(one, two), Guard(one, two)]:
            self.assertEqual(made.bodies(), [[Do("a"), Do("b")], [Fail()]])

    def test_bodies_are_lists(self):
        for made in [If("a", 1, (Do("a"),)), Last((), ()), Guard(())]:
            self.assertIs(made.bodies().__class__, list)
            self.assertEqual([body.__class__ for body in made.bodies()], [list, list])

    def test_nested_bodies(self):
        inner = If("a", 1, [Do("b")])
        middle = Last([inner, Do("c")], [Fail()])
        outer = Guard([middle], [Call("d")])
        self.assertEqual(outer.bodies(), [[middle], [Call("d")]])
        self.assertEqual(outer.bodies()[0][0].bodies(), [[inner, Do("c")], [Fail()]])
        self.assertEqual(outer.bodies()[0][0].bodies()[0][0].bodies(), [[Do("b")], []])


class TestMany(unittest.TestCase):
    def test_statements_without_bodies_are_one(self):
        for made in [Do("a"), Put("a", 1), Fire("a"), Call("a"), Fail(), If("a", 1, []), Last([], []), Guard([])]:
            self.assertEqual(made.many(), 1)

    def test_both_bodies_count(self):
        one, two = [Do("a"), Do("b")], [Fail(), Put("a", 0), Fire("a")]
        for made in [If("a", 1, one, two), Last(one, two), Guard(one, two)]:
            self.assertEqual(made.many(), 6)
        for made in [If("a", 1, one), Last(one, []), Guard(one)]:
            self.assertEqual(made.many(), 3)
        for made in [If("a", 1, [], two), Last([], two), Guard([], two)]:
            self.assertEqual(made.many(), 4)

    def test_nested_statements_count(self):
        inner = If("a", 1, [Do("b")])
        middle = Last([inner, Do("c")], [Fail()])
        self.assertEqual([inner.many(), middle.many(), Guard([middle], [Call("d")]).many()], [2, 5, 7])

    def test_a_statement_that_stands_twice_counts_twice(self):
        step = Do("a")
        self.assertEqual(If("a", 1, [step, step], [step]).many(), 4)
        twice = step
        for _ in range(8):
            twice = Guard([twice, twice])
        self.assertEqual(twice.many(), 2 ** 9 - 1)

    def test_eight_deep(self):
        deep = [Fail()]
        for at in range(7):
            deep = [[Guard(deep), If("a", 0, deep), Last(deep, [])][at % 3]]
        self.assertEqual(deep[0].many(), 8)


class TestErrors(unittest.TestCase):
    def assert_raised(self, error, value, call):
        with self.assertRaises(error) as caught:
            call()
        self.assertIs(caught.exception.value, value)

    def test_invalid_names(self):
        for name in [*WRONG_NAMES, *no_strings()]:
            for kind in [Do, Fire, Call]:
                self.assert_raised(InvalidName, name, lambda: kind(name))
            for value in [1, 4, None]:
                self.assert_raised(InvalidName, name, lambda: Put(name, value))
                self.assert_raised(InvalidName, name, lambda: If(name, value, None, None))

    def test_invalid_values(self):
        for value in [4, 5, 10 ** 29, -1, -4, *no_integers()]:
            self.assert_raised(InvalidValue, value, lambda: Put("a", value))
            self.assert_raised(InvalidValue, value, lambda: If("a", value, []))
            self.assert_raised(InvalidValue, value, lambda: If("a", value, None, None))

    def test_invalid_bodies(self):
        for body in no_bodies():
            self.assert_raised(InvalidBody, body, lambda: If("a", 1, body))
            self.assert_raised(InvalidBody, body, lambda: If("a", 1, body, ["wrong"]))
            self.assert_raised(InvalidBody, body, lambda: If("a", 1, [Do("a")], body))
            self.assert_raised(InvalidBody, body, lambda: Last(body, []))
            self.assert_raised(InvalidBody, body, lambda: Last(body, ["wrong"]))
            self.assert_raised(InvalidBody, body, lambda: Last((Do("a"),), body))
            self.assert_raised(InvalidBody, body, lambda: Guard(body))
            self.assert_raised(InvalidBody, body, lambda: Guard(body, ["wrong"]))
            self.assert_raised(InvalidBody, body, lambda: Guard([], body))

    def test_something_else_at_any_place(self):
        for many in range(1, 5):
            for place in range(many):
                body = [Do("a") for _ in range(many)]
                body[place] = "do a"
                self.assert_raised(InvalidBody, body, lambda: Guard(body))
                self.assert_raised(InvalidBody, body, lambda: Last([], body))

    def test_none_is_no_other_body(self):
        self.assert_raised(InvalidBody, None, lambda: If("a", 1, [], None))
        self.assert_raised(InvalidBody, None, lambda: Guard([], None))


class TestEquality(unittest.TestCase):
    def test_the_same_parts(self):
        for one, other in zip(one_of_each(), one_of_each()):
            self.assertIs(one == other, True)
            self.assertIs(one != other, False)

    def test_another_kind(self):
        for at, one in enumerate(one_of_each()):
            for place, other in enumerate(one_of_each()):
                self.assertIs(one == other, at == place)
                self.assertIs(one != other, at != place)

    def test_another_kind_with_empty_bodies(self):
        made = [If("a", 0, []), Last([], []), Guard([]), Fail()]
        for at, one in enumerate(made):
            self.assertEqual([one == other for other in made], [at == place for place in range(4)])

    def test_other_parts(self):
        body = [Do("b")]
        different = [
            Do("a"), Do("b"), Put("a", 1), Put("a", 0), Put("b", 1), Fire("a"), Fire("b"), Call("a"), Call("b"),
            If("a", 1, body), If("b", 1, body), If("a", 0, body), If("a", 1, []), If("a", 1, [Do("a")]),
            If("a", 1, body, body), If("a", 1, body, [Do("a")]), If("a", 1, [], body), If("a", 1, [Do("b"), Do("b")]),
            Last(body, []), Last([], body), Last(body, body), Last([], []), Last(body, [Do("a")]),
            Last([Do("a")], body), Guard(body), Guard([], body), Guard(body, body), Guard([]), Guard(body, [Do("a")]),
            Guard([Do("a")], body), Guard([Do("a"), Do("b")]), Guard([Do("b"), Do("a")]), Guard([Guard(body)]),
            Guard([Guard([Do("a")])]), Fail(),
        ]
        for at, one in enumerate(different):
            self.assertEqual([one == other for other in different], [at == place for place in range(len(different))])

    def test_lists_tuples_and_what_is_left_out_make_no_difference(self):
        self.assertEqual(If("a", 1, [Do("b")]), If("a", 1, (Do("b"),), []))
        self.assertEqual(Last([Do("b")], ()), Last((Do("b"),), []))
        self.assertEqual(Guard([Do("b")]), Guard((Do("b"),), ()))

    def test_nested_parts(self):
        def nested(step):
            return Guard([Last([If("a", 1, [], [Do(step)])], [])])

        self.assertIs(nested("a") == nested("a"), True)
        self.assertIs(nested("a") == nested("b"), False)

    def test_values_of_other_kinds(self):
        for made in one_of_each():
            for other in [None, 0, 1, "a", ("a", 1), [], made.bodies(), made.many(), made.__class__, object(), {}]:
                self.assertIs(made == other, False)
                self.assertIs(other == made, False)
                self.assertIs(made != other, True)


class TestCopies(unittest.TestCase):
    def test_changes_of_passed_lists_make_no_difference(self):
        for make in [lambda one, two: If("a", 1, one, two), Last, Guard]:
            one, two = [Do("a")], [Fail(), Fail()]
            made = make(one, two)
            one.append(Do("b"))
            two.clear()
            self.assertEqual(made.bodies(), [[Do("a")], [Fail(), Fail()]])
            self.assertEqual(made.many(), 4)
            self.assertEqual(made, make([Do("a")], [Fail(), Fail()]))

    def test_changes_of_returned_lists_make_no_difference(self):
        for make in [lambda one, two: If("a", 1, one, two), Last, Guard]:
            made = make([Do("a")], [Fail()])
            told = made.bodies()
            told[0].append(Do("b"))
            told[1].clear()
            told.reverse()
            self.assertEqual(made.bodies(), [[Do("a")], [Fail()]])
            self.assertEqual(made.many(), 3)
        made = Do("a")
        made.bodies().append([])
        self.assertEqual(made.bodies(), [])

    def test_bodies_left_out_are_not_shared(self):
        Guard([]).bodies()[1].append(Do("a"))
        If("a", 1, []).bodies()[1].append(Do("a"))
        self.assertEqual([Guard([]).bodies(), If("a", 1, []).bodies()], [[[], []], [[], []]])

    def test_the_arguments_are_not_changed(self):
        one, two = [Do("a")], (Fail(),)
        If("a", 1, one, two)
        self.assertEqual([one, two], [[Do("a")], (Fail(),)])
