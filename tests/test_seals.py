"""Promise [71] and the interface of hookvows/seals.py: least sets of seals."""

import itertools
import random
import unittest

from hookvows.boxes import Boxes
from hookvows.errors import InvalidHost, InvalidPowers, InvalidPrices, InvalidVows, TooMany
from hookvows.hosts import Host
from hookvows.records import record
from hookvows.seals import cheapest_seals, keeps, least_breaks, least_seals, needed_seals
from hookvows.sets import States
from hookvows.statements import Do, Fail, Fire, Guard, Put
from hookvows.vows import Kept, Left, Once, Sure, Whole, is_kept
from tests.model import random_host
from tests.sample_hosts import pay_host
from tests.sample_vows import random_vows
from tests.samples import AlwaysEqual, containers, no_integers, odd_values

BIT = Boxes({"a": 2})
ZERO = States(BIT, [(0,)])
ALL = States.every(BIT)


def wide_host():
    """A host at which many powers break something, alone or several together."""
    deeds = [("low", [Do("low"), Put("a", 0)]), ("run", [Do("one"), Fire("h"), Guard([Fire("g")], [Do("two")]), Do("end")])]
    host = Host(BIT, (0,), deeds, {"h": [Do("core")], "g": [Put("a", 1), Fail()]}, ["run"], [])
    return host + host.all_powers()


def sets_one_by_one(host, vows, powers):
    """The least sets that keep the vows, and the least ones that break them, by asking all sets."""
    powers = sorted(powers)
    kept = {}
    for many in range(len(powers) + 1):
        for chosen in itertools.combinations(powers, many):
            kept[chosen] = all(is_kept(host - chosen, vow) for vow in vows)

    def without(chosen):
        return tuple(power for power in powers if power not in chosen)

    def smaller(chosen):
        return [tuple(power for power in chosen if power != left) for left in chosen]

    broken = {chosen: not kept[without(chosen)] for chosen in kept}
    listed = []
    for table in [kept, broken]:
        found = [list(chosen) for chosen in table if table[chosen] and not any(table[less] for less in smaller(chosen))]
        listed.append(sorted(found, key=lambda chosen: (len(chosen), chosen)))
    return listed


class TestSeals(unittest.TestCase):
    def assert_all(self, host, vows, powers):
        """All functions against all sets, one by one; the least seals."""
        keeping, breaking = sets_one_by_one(host, vows, powers)
        self.assertEqual(least_seals(host, vows, powers), keeping)
        self.assertEqual(least_breaks(host, vows, powers), breaking)
        for one in keeping:
            self.assertIs(keeps(host, vows, one), True)
            for power in one:
                self.assertIs(keeps(host, vows, [other for other in one if other != power]), False)
            for other in breaking:
                self.assertTrue(set(one) & set(other))
        needed = needed_seals(host, vows, powers)
        if keeping:
            self.assertEqual(needed, sorted(power for power in powers if all(power in one for one in keeping)))
        else:
            self.assertIsNone(needed)
        return keeping

    def test_the_overview(self):
        host = pay_host([("check", "ahead", "door", "pay"), ("check", "behind", "fail", "")])
        busy = States.where(host.boxes, "busy", 1)
        vows = [Whole("check", busy), Sure("pay", "charge", "well")]
        self.assertEqual(least_seals(host, vows, host.powers()), [[("check", "ahead", "door", "pay")]])
        self.assertEqual(least_breaks(host, vows, host.powers()), [[("check", "ahead", "door", "pay")]])
        self.assertEqual(needed_seals(host, vows, host.powers()), [("check", "ahead", "door", "pay")])
        self.assertFalse(keeps(host, vows, []))
        self.assertTrue(keeps(host, vows, [("check", "ahead", "door", "pay")]))
        self.assertTrue(keeps(host=host, vows=vows, powers=host.powers()))

    def test_vows_that_the_host_keeps_without_powers(self):
        found = set()
        for seed in range(150):
            random_one, host = random.Random(seed), random_host(seed)
            closed = host - host.powers()
            vows = [vow for _ in range(3) for vow in random_vows(random_one, host)]
            vows = [vow for vow in vows if is_kept(closed, vow) and not is_kept(host, vow)]
            vows.append(Kept(States(host.boxes, record(closed)[2])))
            powers = random_one.sample(host.powers(), min(len(host.powers()), 6))
            # What is not among the powers that may be sealed is not there, or stays.
            left = host - [power for power in host.powers() if power not in powers and random_one.random() < 0.9]
            least = self.assert_all(left, random_one.sample(vows, random_one.randint(1, min(len(vows), 2))), powers)
            found.add(tuple(len(one) for one in least))
        self.assertGreater(len(found), 8)
        self.assertTrue(any(len(set(sizes)) > 1 for sizes in found))

    def test_random_hosts(self):
        for seed in range(40):
            random_one, host = random.Random(seed), random_host(seed)
            powers = random_one.sample(host.powers(), min(len(host.powers()), 4))
            vows = random_vows(random_one, host)
            self.assert_all(host, random_one.sample(vows, 2), powers)

    def two_ways_host(self):
        """A host whose core can be left out in two ways, and not come in a third one."""
        body = [Fire("h"), Do("two")]
        powers = [("h", "ahead", "fail", ""), ("h", "ahead", "answer", ""), ("h", "around", "skip", "")]
        return Host(BIT, (0,), [("run", body)], {"h": [Do("core")]}, ["run"], powers)

    def test_several_least_sets(self):
        # The core is left out by an answer or by a skip, and it comes not at all behind a failure.
        host = self.two_ways_host()
        answer, fail, skip = [("h", "ahead", "answer", ""), ("h", "ahead", "fail", ""), ("h", "around", "skip", "")]
        self.assertEqual(least_seals(host, [Sure("run", "core")], host.powers()), [[answer, fail, skip]])
        self.assertEqual(least_breaks(host, [Sure("run", "core")], host.powers()), [[answer], [fail], [skip]])
        self.assertEqual(least_seals(host, [Sure("run", "core", "well")], host.powers()), [[answer, skip]])
        self.assertEqual(needed_seals(host, [Sure("run", "core", "well")], host.powers()), [answer, skip])

    def several_host(self):
        """A host with two powers to make a 1 at the first firing, and one to let the second firing end well."""
        lend, swallow = ("h", "behind", "lend", "a"), ("g", "around", "swallow", "")
        door, fail = ("h", "ahead", "door", "low"), ("g", "ahead", "fail", "")
        deeds = [("low", [Put("a", 1)]), ("run", [Fire("h"), Guard([Fire("g")], [Fail()]), Do("end"), Put("a", 0)])]
        return Host(BIT, (0,), deeds, {"h": [], "g": [Fail()]}, ["run"], [lend, swallow, door, fail])

    def test_sets_of_different_length(self):
        host = self.several_host()
        lend, swallow = ("h", "behind", "lend", "a"), ("g", "around", "swallow", "")
        door = ("h", "ahead", "door", "low")
        # The run fails in 1 if either power makes a 1.
        vow = Left("run", ALL, ZERO)
        seen = self.assert_all(host, [vow], host.powers())
        self.assertEqual(seen, [[door, lend]])
        vow = Sure("run", "none", "well")
        self.assertEqual(self.assert_all(host, [vow], host.powers()), [[swallow]])
        body = [Fire("h"), Guard([Fire("g")], [Put("a", 0), Fail()])]
        host = Host(BIT, (0,), [("low", [Put("a", 1)]), ("run", body)], {"h": [], "g": [Fail()]}, ["run"], host.powers())
        self.assertEqual(self.assert_all(host, [Kept(ZERO)], host.powers()), [[swallow], [door, lend]])
        self.assertEqual(needed_seals(host, [Kept(ZERO)], host.powers()), [])
        self.assertEqual(least_breaks(host, [Kept(ZERO)], host.powers()), [[swallow, door], [swallow, lend]])
        prices = {swallow: 5, door: 2, lend: 2, ("g", "ahead", "fail", ""): 0}
        self.assertEqual(cheapest_seals(host, [Kept(ZERO)], prices), (4, [door, lend]))
        self.assertEqual(cheapest_seals(host, [Kept(ZERO)], {**prices, swallow: 4}), (4, [swallow]))
        self.assertEqual(cheapest_seals(host, [Kept(ZERO)], {**prices, swallow: 0}), (0, [swallow]))
        self.assertEqual(cheapest_seals(host, [Kept(ZERO)], {power: 0 for power in prices}), (0, [swallow]))
        self.assertEqual(cheapest_seals(host, [Kept(ZERO)], {door: 1, lend: 10 ** 29}), (10 ** 29 + 1, [door, lend]))
        self.assertIsNone(cheapest_seals(host, [Kept(ZERO)], {door: 1}))

    def test_nothing_has_to_be_sealed(self):
        host = wide_host()
        for powers in [[], host.powers()[:3], ()]:
            self.assertEqual(least_seals(host, [Once("run", "one")], powers), [[]])
            self.assertEqual(least_breaks(host, [Once("run", "one")], powers), [])
            self.assertEqual(needed_seals(host, [Once("run", "one")], powers), [])
            self.assertTrue(keeps(host, [Once("run", "one")], powers))
        self.assertEqual(cheapest_seals(host, [Once("run", "one")], {}), (0, []))
        self.assertEqual(cheapest_seals(host, [Once("run", "one")], {host.powers()[0]: 7}), (0, []))

    def test_no_set_keeps_them(self):
        host = pay_host()
        for powers in [[], host.powers()]:
            self.assertEqual(least_seals(host, [Sure("pay", "none")], powers), [])
            self.assertEqual(least_breaks(host, [Sure("pay", "none")], powers), [[]])
            self.assertIsNone(needed_seals(host, [Sure("pay", "none")], powers))
            self.assertFalse(keeps(host, [Sure("pay", "none")], powers))
            self.assertIsNone(cheapest_seals(host, [Once("pay", "charge"), Sure("pay", "none")], dict.fromkeys(powers, 1)))

    def test_powers_without_use(self):
        host = Host(BIT, (0,), [("run", [])], {"h": []}, ["run"], [("h", "ahead", "fail", ""), ("h", "behind", "lend", "a")])
        self.assertEqual(least_seals(host, [Kept(ZERO)], host.powers()), [[]])
        further = self.two_ways_host() + [("h", "around", "again", ""), ("h", "behind", "door", "run")]
        found = least_seals(further, [Sure("run", "core", "well")], further.powers())
        self.assertEqual(found, [[("h", "ahead", "answer", ""), ("h", "around", "skip", "")]])

    def test_sequences_and_tuples_make_no_difference(self):
        host = self.two_ways_host()
        vows = [Sure("run", "core")]
        for powers in [host.powers()[::-1], tuple(host.powers())]:
            self.assertEqual(least_seals(host, tuple(vows), powers), least_seals(host, vows, host.powers()))
            self.assertEqual(least_breaks(host, vows, powers), least_breaks(host, vows, host.powers()))
            self.assertEqual(needed_seals(host, vows, powers), sorted(powers))
        self.assertEqual(cheapest_seals(host, vows, dict.fromkeys(host.powers()[::-1], 2)), (6, host.powers()))

    def test_returned_lists_are_new_and_nothing_is_changed(self):
        host = self.two_ways_host()
        vows, powers = [Sure("run", "core")], host.powers()[::-1]
        found = least_seals(host, vows, powers)
        found[0].clear()
        needed_seals(host, vows, powers).clear()
        self.assertEqual(powers, host.powers()[::-1])
        self.assertEqual(least_seals(host, vows, powers), [host.powers()])
        self.assertEqual(len(host.powers()), 3)

    def test_eight_powers_and_nine(self):
        host = wide_host()
        vows = [Sure("run", "end"), Left("run", ALL, ZERO)]
        found = least_seals(host, vows, host.powers()[:8])
        self.assertEqual(found, sets_one_by_one(host, vows, host.powers()[:8])[0])
        for call in [keeps, least_seals, least_breaks, needed_seals]:
            for powers in [host.powers()[:9], host.powers()]:
                with self.assertRaises(TooMany) as caught:
                    call(host, vows, powers)
                self.assertEqual([caught.exception.what, caught.exception.limit], ["powers", 8])
        with self.assertRaises(TooMany) as caught:
            cheapest_seals(host, vows, dict.fromkeys(host.powers()[:9], 1))
        self.assertEqual([caught.exception.what, caught.exception.limit], ["powers", 8])
        self.assertEqual(cheapest_seals(host, vows, dict.fromkeys(host.powers()[:8], 1)), None if not found else (len(found[0]), found[0]))

    def test_eight_powers_that_break_alone(self):
        hooks = {name: [] for name in ["h1", "h2", "h3", "h4"]}
        powers = [(hook, rank, "lend", "a") for hook in hooks for rank in ["ahead", "behind"]]
        host = Host(BIT, (0,), [("run", [Fire(hook) for hook in hooks])], hooks, ["run"], powers)
        self.assertEqual(least_seals(host, [Kept(ZERO)], powers), [sorted(powers)])
        self.assertEqual(least_breaks(host, [Kept(ZERO)], powers), [[power] for power in sorted(powers)])

    def test_pairs_of_powers_that_break_together(self):
        # At each hook a failure of the core has to be swallowed, and a lent behind it: one of both must be sealed.
        hooks = {name: [Fail()] for name in ["h1", "h2", "h3", "h4"]}
        powers = [(hook, *told) for hook in hooks for told in [("around", "swallow", ""), ("behind", "lend", "a")]]
        body = [Guard([Fire(hook)]) for hook in hooks]
        host = Host(BIT, (0,), [("run", body)], hooks, ["run"], powers)
        found = least_seals(host, [Kept(ZERO)], powers)
        self.assertEqual(len(found), 16)
        self.assertEqual(found, sorted(found))
        self.assertEqual(found, sets_one_by_one(host, [Kept(ZERO)], powers)[0])
        self.assertEqual(len(least_breaks(host, [Kept(ZERO)], powers)), 4)
        self.assertEqual(needed_seals(host, [Kept(ZERO)], powers), [])
        # Of equal prices the first one of the least sets.
        self.assertEqual(cheapest_seals(host, [Kept(ZERO)], dict.fromkeys(powers, 3)), (12, found[0]))


class TestErrors(unittest.TestCase):
    def assert_raised(self, error, value, call):
        with self.assertRaises(error) as caught:
            call()
        self.assertIs(caught.exception.value, value)

    def test_errors_in_their_sequence(self):
        host = pay_host()
        vow = Once("pay", "charge")
        power = ("check", "ahead", "door", "pay")
        nine = wide_host().powers()[:9]
        for call in [keeps, least_seals, least_breaks, needed_seals, cheapest_seals]:
            for value in [None, BIT, *odd_values()]:
                self.assert_raised(InvalidHost, value, lambda: call(value, None, None))
            wrong = [None, vow, [], (), [vow, None], [Once("other", "a")], [vow, Kept(ZERO)], {vow.deed: vow}, [AlwaysEqual()],
                     *odd_values()]
            for value in wrong:
                self.assert_raised(InvalidVows, value, lambda: call(host, value, None))
        for call in [keeps, least_seals, least_breaks, needed_seals]:
            wrong = [None, power, [power, power], [list(power)], [("check", "ahead", "fail", "")], [power, None], {power: 1},
                     [AlwaysEqual()], nine, [power[:3]], "power", *odd_values()]
            for value in wrong:
                self.assert_raised(InvalidPowers, value, lambda: call(host, [vow], value))

    def test_prices(self):
        host = pay_host()
        power = ("check", "ahead", "door", "pay")
        wrong = [{power: value} for value in [-1, -(10 ** 29), *no_integers()]]
        wrong += [{("check", "ahead", "fail", ""): 1}, {power: 1, None: 1}, {"check": 1}, {power[:3]: 0}, [power], [(power, 1)],
                  dict.fromkeys(wide_host().powers()[:9], 1), *odd_values(), *containers()[:2]]
        for value in wrong:
            self.assert_raised(InvalidPrices, value, lambda: cheapest_seals(host, [Once("pay", "charge")], value))
        self.assertEqual(cheapest_seals(host=host, vows=[Once("pay", "charge")], prices={power: 0}), (0, []))
