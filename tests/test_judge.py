"""Promise [92] and the interface of hookvows/judge.py: claims and certificates."""

import random
import unittest

from hookvows.alike import are_alike, sightings
from hookvows.boxes import Boxes
from hookvows.errors import InvalidClaim
from hookvows.hosts import Host
from hookvows.judge import certificate_of, is_certificate, is_claim
from hookvows.live import run_script
from hookvows.plays import breaking_play
from hookvows.records import is_record, outcomes, record
from hookvows.scripts import Play, Script
from hookvows.sets import States
from hookvows.statements import Do, Fire, Put
from hookvows.vows import Kept, Left, Once, Sure, Whole, breaks, is_kept, shows
from tests.model import random_host
from tests.sample_hosts import pay_host
from tests.sample_vows import random_vows
from tests.samples import AlwaysEqual, NeverEqual, containers, no_strings, odd_values

DOOR = ("check", "ahead", "door", "pay")


class TestClaims(unittest.TestCase):
    """The host of the overview, with claims of each kind."""

    def setUp(self):
        self.host = pay_host()
        self.boxes = self.host.boxes
        self.busy = Whole("check", States.where(self.boxes, "busy", 1))
        self.once = Once("pay", "charge")
        self.other = Host(self.boxes, (0, 0), [("pay", [Put("paid", 1)])], {"check": []}, ["pay"], [DOOR])

    def true_claims(self):
        return [
            ("kept", self.host, self.once), ("broken", self.host, self.busy),
            ("ends", self.host, "pay", (1, 0), "well", (0, 1)), ("never", self.host, "pay", (1, 0), "well", (0, 0)),
            ("never", self.host, "pay", (0, 0), "failed", (0, 1)), ("seals", self.host, [self.busy, self.once], [DOOR]),
            ("seals", self.host, [self.once], []), ("parted", self.host, self.other),
        ]

    def untrue_claims(self):
        return [
            ("kept", self.host, self.busy), ("broken", self.host, self.once),
            ("ends", self.host, "pay", (1, 0), "well", (0, 0)), ("ends", self.host, "pay", (0, 0), "failed", (0, 1)),
            ("never", self.host, "pay", (1, 0), "well", (0, 1)), ("seals", self.host, [self.busy, self.once], []),
            ("seals", self.host, [Sure("pay", "none")], [DOOR]), ("parted", self.host, pay_host()),
        ]

    def test_all_are_claims(self):
        for claim in self.true_claims() + self.untrue_claims():
            self.assertIs(is_claim(claim), True)
        self.assertIs(is_claim(value=("seals", self.host, (self.once,), (DOOR,))), True)

    def test_certificates_of_true_claims(self):
        for claim in self.true_claims():
            told = certificate_of(claim)
            self.assertIsNotNone(told)
            self.assertIs(is_certificate(claim, told), True)
            self.assertEqual(certificate_of(claim), told)
        self.assertTrue(is_certificate(value=record(self.host), claim=("kept", self.host, self.once)))
        self.assertEqual(certificate_of(claim=("kept", self.host, self.once)), record(self.host))

    def test_kinds_of_certificates(self):
        kinds = [tuple, Play, Script, tuple, tuple, tuple, tuple, Play]
        for claim, kind in zip(self.true_claims(), kinds):
            self.assertIsInstance(certificate_of(claim), kind)

    def test_untrue_claims_have_none(self):
        certificates = [certificate_of(claim) for claim in self.true_claims()]
        for claim in self.untrue_claims():
            self.assertIsNone(certificate_of(claim))
            for value in [*certificates, record(self.host), None]:
                self.assertIs(is_certificate(claim, value), False)

    def test_any_values_are_no_certificates(self):
        for claim in self.true_claims() + self.untrue_claims():
            for value in [*odd_values(), *containers(), *no_strings(), "play", Play, Script, self.host, claim]:
                self.assertIs(is_certificate(claim, value), False)

    def test_other_right_ones(self):
        play = breaking_play(self.host, self.busy)
        longer = Play([*play.calls(), "pay"], play.script + Script([("look",)]))
        self.assertTrue(is_certificate(("broken", self.host, self.busy), longer))
        further = Play(["pay"], Script([], [], [("look",)], [("door", "pay"), ("look",)]))
        self.assertFalse(is_certificate(("broken", self.host, self.busy), further))
        further = Play(["pay"], Script([("look",), ("door", "pay"), ("look",)]))
        self.assertTrue(is_certificate(("broken", self.host, self.busy), further))
        table, entries, between = record(self.host)
        larger = table, {"pay": tuple(self.boxes.states()[::-1])}, self.boxes.states()
        self.assertTrue(is_certificate(("kept", self.host, self.once), larger))
        claim = ("never", self.host, "pay", (1, 0), "failed", (0, 0))
        self.assertTrue(is_certificate(claim, larger))
        more = {**table, ("pay", (1, 0)): [("failed", (1, 1)), *table["pay", (1, 0)]]}
        self.assertTrue(is_certificate(claim, (more, *larger[1:])))
        for value in [Script(), Script([("fail",)], [("look",)]), Script([("door", "pay")])]:
            self.assertTrue(is_certificate(("ends", self.host, "pay", (1, 0), "well", (0, 1)), value))
        self.assertTrue(is_certificate(("parted", self.host, self.other), Play(["pay", "pay"], Script([("look",)]))))

    def test_nearly_right_ones(self):
        claim = ("broken", self.host, self.busy)
        for value in [Play([], Script()), Play(["pay"], Script()), Play(["pay"], Script([("look",)])), Script([("door", "pay"), ("look",)]),
                      Play(["none"], Script([("door", "pay"), ("look",)])), ["pay"], record(self.host)]:
            self.assertFalse(is_certificate(claim, value))
        table, entries, between = record(self.host)
        claim = ("kept", self.host, self.once)
        for value in [(table, entries), [table, entries, between], (table, entries, between[:1]), (table, {"pay": []}, between),
                      ({**table, ("pay", (0, 0)): []}, entries, between)]:
            self.assertFalse(is_certificate(claim, value))
        # A record whose table has what the claim says never comes.
        more = {**table, ("pay", (1, 0)): [("failed", (0, 0)), *table["pay", (1, 0)]]}
        value = more, {"pay": self.boxes.states()}, self.boxes.states()
        self.assertTrue(is_record(self.host, value))
        self.assertFalse(is_certificate(("never", self.host, "pay", (1, 0), "failed", (0, 0)), value))
        host = self.host + [("check", "behind", "fail", "")]
        claim = ("ends", host, "pay", (0, 0), "failed", (1, 0))
        self.assertTrue(is_certificate(claim, Script([], [], [("fail",)])))
        for value in [Script(), Script([], [("fail",)]), Script([], [], [("look",)]), [[], [], [("fail",)]], Play(["pay"], Script())]:
            self.assertFalse(is_certificate(claim, value))
        self.assertFalse(is_certificate(("parted", self.host, self.other), Play([], Script())))
        self.assertFalse(is_certificate(("parted", self.host, self.other), Play(["none"], Script())))

    def test_certificates_of_another_claim(self):
        # A record of the host with all its powers is one of the host with fewer, but it shows less.
        fail = ("check", "behind", "fail", "")
        claim = ("seals", self.host + [fail], [Kept(States.where(self.boxes, "busy", 0))], [fail])
        self.assertTrue(is_record(self.host, record(self.host + [fail])))
        self.assertFalse(is_certificate(claim, record(self.host + [fail])))
        self.assertTrue(is_certificate(claim, record(self.host)))
        # Here it shows as much: each run puts busy to 1 first.
        self.assertTrue(is_certificate(("seals", self.host, [self.busy], [DOOR]), record(self.host)))
        self.assertFalse(is_certificate(("kept", self.host, self.once), record(self.host - [DOOR])))
        self.assertTrue(is_certificate(("seals", self.host, [self.once], [DOOR]), record(self.host)))
        claims = self.true_claims()
        for at, claim in enumerate(claims):
            for other in claims:
                told = certificate_of(other)
                # Some certificates are good for several claims; none is for those that ask for another kind.
                if not isinstance(told, type(certificate_of(claim))):
                    self.assertFalse(is_certificate(claim, told))

    def test_powers_without_limit(self):
        host = self.host + self.host.all_powers()
        claim = ("seals", host, [self.busy, self.once], host.powers())
        self.assertTrue(is_certificate(claim, certificate_of(claim)))


class TestNoClaims(unittest.TestCase):
    def setUp(self):
        self.host = pay_host()

    def assert_none(self, value):
        self.assertIs(is_claim(value), False)
        with self.assertRaises(InvalidClaim) as caught:
            is_certificate(value, None)
        self.assertIs(caught.exception.value, value)
        with self.assertRaises(InvalidClaim) as caught:
            certificate_of(value)
        self.assertIs(caught.exception.value, value)

    def test_each_part_spoilt(self):
        host, vow = self.host, Once("pay", "charge")
        other = Host(host.boxes, (0, 0), [("buy", [])], {"check": []}, ["buy"], [])
        no_hosts = [None, host.boxes, "host", AlwaysEqual(), *odd_values()]
        no_vows = [None, "vow", Once("buy", "charge"), Kept(States(Boxes({"a": 2}), [])), [vow], AlwaysEqual(), *odd_values()]
        for word in ["kept", "broken"]:
            for value in [(word,), (word, host), (word, host, vow, vow), [word, host, vow], (word, vow, host)]:
                self.assert_none(value)
            for value in no_hosts:
                self.assert_none((word, value, vow))
            for value in no_vows:
                self.assert_none((word, host, value))
        right = ["pay", (0, 0), "well", (0, 1)]
        spoilt = [
            ["buy", "Pay", None, b"pay", ["pay"], AlwaysEqual()], [(0,), (0, 2), (0, False), [0, 0], None, AlwaysEqual()],
            ["good", "", None, b"well", ("well",), AlwaysEqual()], [(0,), (True, 0), (2, 0), [0, 1], "busy=0 paid=1", None],
        ]
        for word in ["ends", "never"]:
            for value in no_hosts:
                self.assert_none((word, value, *right))
            for at, wrong in enumerate(spoilt):
                for value in wrong:
                    self.assert_none((word, host, *right[:at], value, *right[at + 1:]))
            for value in [(word, host, *right[:-1]), (word, host, *right, None), [word, host, *right], (word, host)]:
                self.assert_none(value)
        for value in no_hosts:
            self.assert_none(("seals", value, [vow], []))
            self.assert_none(("parted", value, host))
            self.assert_none(("parted", host, value))
        for value in [None, vow, [], (), [vow, None], [Once("buy", "charge")], {vow.deed: vow}, [AlwaysEqual()]]:
            self.assert_none(("seals", host, value, [DOOR]))
        for value in [None, DOOR, [DOOR, DOOR], [list(DOOR)], [("check", "ahead", "fail", "")], {DOOR: 1}, [None], [AlwaysEqual()]]:
            self.assert_none(("seals", host, [vow], value))
        for value in [("seals", host, [vow]), ("seals", host, [vow], [], []), ("parted", host), ("parted", host, host, host)]:
            self.assert_none(value)
        for value in [other, host - [DOOR], host + [("check", "ahead", "fail", "")]]:
            self.assert_none(("parted", host, value))

    def test_words(self):
        for word in ["Kept", "keep", "", None, 0, b"kept", ("kept",), ["kept"], AlwaysEqual(), NeverEqual()]:
            self.assert_none((word, self.host, Once("pay", "charge")))

    def test_values_of_any_kind(self):
        for value in ["kept", self.host, *odd_values(), *containers(), *no_strings()]:
            self.assert_none(value)


class TestRandomClaims(unittest.TestCase):
    def test_true_and_untrue_ones(self):
        found = {}
        for seed in range(120):
            random_one, host = random.Random(seed), random_host(seed)
            vow = random_one.choice(random_vows(random_one, host))
            deed = random_one.choice(host.deeds())
            state, end = random_one.choice(host.boxes.states()), random_one.choice(host.boxes.states())
            way = random_one.choice(["well", "failed"])
            powers = random_one.sample(host.powers(), random_one.randint(0, len(host.powers())))
            other = Host(
                host.boxes, random_one.choice(host.boxes.states()), [(name, host.body(name)) for name in host.deeds()],
                {hook: [] for hook in host.hooks()}, host.open_deeds(), host.powers(),
            )
            comes = (way, end) in outcomes(host, deed, state)
            claims = [
                (("kept", host, vow), is_kept(host, vow)), (("broken", host, vow), not is_kept(host, vow)),
                (("ends", host, deed, state, way, end), comes), (("never", host, deed, state, way, end), not comes),
                (("seals", host, [vow], powers), is_kept(host - powers, vow)),
                (("parted", host, other), not are_alike(host, other)),
            ]
            for claim, is_true in claims:
                self.assertTrue(is_claim(claim))
                told = certificate_of(claim)
                self.assertEqual(told is not None, is_true)
                self.assertEqual(is_certificate(claim, told), is_true)
                found[claim[0], is_true] = found.get((claim[0], is_true), 0) + 1
                if is_true:
                    self.assert_right(claim, told)
        self.assertGreater(min(found.values()), 10)
        self.assertEqual(len(found), 12)

    def assert_right(self, claim, told):
        """What the certificate has to show, by the functions of the other files."""
        word, host = claim[:2]
        if word == "kept":
            self.assertTrue(shows(host, told, claim[2]))
        elif word == "broken":
            self.assertTrue(breaks(host, told, claim[2]))
        elif word == "ends":
            run = run_script(host, claim[2], claim[3], told)
            self.assertEqual((run.way, run.state), claim[4:])
        elif word == "never":
            self.assertTrue(is_record(host, told))
            self.assertNotIn(claim[4:], told[0][claim[2:4]])
        elif word == "seals":
            self.assertTrue(shows(host - claim[3], told, claim[2][0]))
        else:
            self.assertNotEqual(sightings(host, told), sightings(claim[2], told))

    def test_nothing_is_changed(self):
        host = Host(Boxes({"a": 2}), (0,), [("run", [Fire("h"), Do("one")])], {"h": []}, ["run"], [])
        vows, powers = [Sure("run", "one"), Left("run", States.every(host.boxes), States.every(host.boxes))], []
        claim = ("seals", host, vows, powers)
        told = certificate_of(claim)
        is_certificate(claim, told)
        self.assertEqual([len(vows), powers, told], [2, [], record(host)])
