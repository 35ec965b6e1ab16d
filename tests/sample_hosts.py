"""Hosts for the tests."""

from hookvows.boxes import Boxes
from hookvows.hosts import Host
from hookvows.statements import Call, Do, Fail, Fire, Guard, If, Last, Put

PAY_BODY = [Put("busy", 1), Fire("check"), Do("charge"), Put("paid", 1), Put("busy", 0)]


def pay_boxes():
    """The boxes of the example: busy and paid."""
    return Boxes({"busy": 2, "paid": 2})


def pay_host(powers=(("check", "ahead", "door", "pay"),), core=()):
    """The host of the example, with these powers and this core."""
    return Host(pay_boxes(), (0, 0), [("pay", PAY_BODY)], {"check": core}, ["pay"], powers)


def free_host(body, core=(), further=(), first=(0, 0), hooks=None):
    """A host with the deed run, which has this body, and all powers; behind it some further deeds."""
    hooks = {"h": core} if hooks is None else hooks
    names = ["run", *[name for name, _ in further]]
    host = Host(Boxes({"a": 2, "b": 3}), first, [("run", body), *further], hooks, names, [])
    return host + host.all_powers()


def nested_body():
    """A body that has a statement of each kind within others; seventeen statements, eight deep."""
    deep = [Do("deep")]
    deep = [If("a", 0, deep, [Fail()])]
    deep = [Guard([Put("b", 2)], deep)]
    deep = [Last([Fire("h")], deep)]
    deep = [If("b", 2, [], [*deep, Do("other")])]
    deep = [Last(deep, [Do("last"), Put("a", 1)])]
    deep = [Guard([*deep, Fail()], [Do("guard")])]
    return [Do("first"), If("a", 1, deep)]


def nested_host():
    """A host with statements within others, two hooks and three deeds."""
    hooks = {"h2": [Guard([Fail()], [Put("a", 0)])], "h": [Do("core"), If("b", 0, [Do("none")], [Fail()])]}
    deeds = [("zero", []), ("one", nested_body()), ("two", [Call("zero"), Fire("h2"), Last([Call("one")], [Do("end")])])]
    host = Host(Boxes({"a": 2, "b": 3}), (0, 2), deeds, hooks, ["two", "zero"], [])
    return host + host.all_powers()

BIT = Boxes({"a": 2})


def bit_host(body, powers=(), core=(), further=(), first=(0,), open_deeds=("run",)):
    """A host with one box of two values, the deed run behind the further ones, and the hook h with this core."""
    return Host(BIT, first, [*further, ("run", body)], {"h": core}, open_deeds, powers)
