"""Promises [2] and [91]: the texts of hosts, and how they are read."""

import random
import unittest

from hookvows.boxes import Boxes
from hookvows.errors import InvalidText
from hookvows.hosts import Host
from hookvows.statements import Call, Do, Fail, Fire, Guard, If, Last, Put
from hookvows.texts import host_text, read_host
from tests.model import random_host
from tests.sample_hosts import nested_host, pay_host
from tests.samples import no_strings
from tests.text_model import is_text, wrong_line

EXAMPLE = """box busy 2
first busy=0
hook check
  do test
open pay
  try
    if busy 0
      fire check
    else
      fail
  last
    put busy 0
power check ahead door pay
"""

HEAD = ["box a 2", "box b 3", "first a=0 b=2"]
HOOKS = [*HEAD, "hook g", "hook h"]
DEED = [*HOOKS, "deed low", "  do x", "open run"]


def text_of(lines):
    """The text of these lines."""
    return "".join(line + "\n" for line in lines)


class Asserts(unittest.TestCase):
    def assert_wrong(self, line, text):
        with self.assertRaises(InvalidText) as caught:
            read_host(text)
        self.assertEqual(caught.exception.line, line, text)
        self.assertIs(caught.exception.line.__class__, int)

    def assert_right(self, text):
        self.assertEqual(host_text(read_host(text)), text)

    def assert_next(self, lines, line, right):
        """Whether this line can stand behind these ones."""
        lines = list(lines)
        if right:
            # Only the line behind it is wrong, which is no line of a host at all.
            self.assert_wrong(len(lines) + 2, text_of([*lines, line, "nothing"]))
        else:
            self.assert_wrong(len(lines) + 1, text_of([*lines, line]))
            self.assert_wrong(len(lines) + 1, text_of([*lines, line, "nothing"]))
            if line != "":
                self.assert_wrong(len(lines) + 1, text_of([*lines, line])[:-1])


class TestTexts(Asserts):
    def test_the_example(self):
        body = [Last([If("busy", 0, [Fire("check")], [Fail()])], [Put("busy", 0)])]
        powers = [("check", "ahead", "door", "pay")]
        host = Host(Boxes({"busy": 2}), (0,), [("pay", body)], {"check": [Do("test")]}, ["pay"], powers)
        self.assertEqual(host_text(host), EXAMPLE)
        self.assertEqual(read_host(EXAMPLE), host)

    def test_each_line(self):
        self.assertEqual(host_text(nested_host()).splitlines()[:9], [
            "box a 2", "box b 3", "first a=0 b=2", "hook h", "  do core", "  if b 0", "    do none", "  else", "    fail",
        ])
        self.assertEqual(host_text(nested_host()).splitlines()[9:42], [
            "hook h2", "  guard", "    fail", "  else", "    put a 0", "open zero", "deed one", "  do first", "  if a 1",
            "    guard", "      try", "        if b 2", "        else", "          try", "            fire h", "          last",
            "            guard", "              put b 2", "            else", "              if a 0", "                do deep",
            "              else", "                fail", "          do other", "      last", "        do last", "        put a 1",
            "      fail", "    else", "      do guard", "open two", "  call zero", "  fire h2",
        ])
        self.assertEqual(host_text(nested_host()).splitlines()[42:50], [
            "  try", "    call one", "  last", "    do end", "power h ahead answer", "power h ahead door one",
            "power h ahead door two", "power h ahead door zero",
        ])
        self.assertIn("power h2 around swallow\n", host_text(host=nested_host()))

    def test_empty_bodies(self):
        body = [If("a", 0, []), If("a", 1, [], [Fail()]), Guard([]), Guard([], [Do("x")]), Last([], []), Last([Do("y")], [])]
        host = Host(Boxes({"a": 2}), (1,), [("d", body), ("e", [])], {}, [], [])
        self.assertEqual(host_text(host), text_of([
            "box a 2", "first a=1", "deed d", "  if a 0", "  if a 1", "  else", "    fail", "  guard", "  guard", "  else",
            "    do x", "  try", "  last", "  try", "    do y", "  last", "deed e",
        ]))
        self.assertEqual(read_host(host_text(host)), host)

    def test_all_powers_are_sorted(self):
        host = nested_host()
        lines = [line for line in host_text(host).splitlines() if line.startswith("power ")]
        self.assertEqual(lines, [" ".join(["power", *power]).rstrip() for power in host.powers()])

    def test_hosts_read_again(self):
        for host in [nested_host(), pay_host(), pay_host([]), *[random_host(seed) for seed in range(300)]]:
            text = host_text(host)
            self.assertEqual(read_host(text=text), host)
            self.assertEqual(host_text(read_host(text)), text)
            self.assertEqual(read_host(text).open_deeds(), host.open_deeds())

    def test_calls_of_earlier_deeds(self):
        host = Host(Boxes({"a": 2}), (0,), [("z", []), ("b", [Call("z")]), ("a", [Call("b"), Call("z")])], {}, [], [])
        self.assertEqual(read_host(host_text(host)).deeds(), ["z", "b", "a"])
        self.assertEqual(read_host(host_text(host)), host)


class TestNoTexts(Asserts):
    def test_no_strings(self):
        for value in no_strings():
            with self.assertRaises(InvalidText) as caught:
                read_host(value)
            self.assertIsNone(caught.exception.line)

    def test_each_beginning_of_a_text(self):
        for text in [EXAMPLE, host_text(nested_host()), host_text(random_host(7))]:
            for at in range(len(text)):
                if text[:at].endswith("\n") and is_text(text[:at].splitlines()):
                    self.assert_right(text[:at])
                else:
                    self.assert_wrong(text[:at].count("\n") + 1, text[:at])

    def test_the_last_line_without_its_line_feed(self):
        self.assert_wrong(13, EXAMPLE[:-1])
        self.assert_wrong(5, "box busy 2\nfirst busy=0\nhook check\n  do test\nopen pay")
        self.assert_wrong(1, "box busy 2")
        self.assert_wrong(2, "box busy 2\nfirst busy=0")
        # An earlier line that is wrong comes first.
        self.assert_wrong(1, "box busy 5\nfirst busy=0")

    def test_texts_that_end_too_early(self):
        for lines in [[], ["box a 2"], HEAD, HOOKS, [*HEAD, "hook h", "  do x"], [*DEED, "  try"], [*DEED, "  try", "    do x"],
                      [*DEED, "  if a 0", "  else"], [*DEED, "  guard", "    do x", "  else"],
                      [*DEED, "  try", "  last", "    try"], [*DEED, "  if a 0", "  else", "    if a 0", "    else"]]:
            self.assert_wrong(len(lines) + 1, text_of(lines))

    def test_empty_lines(self):
        lines = EXAMPLE.splitlines()
        for at in range(len(lines) + 1):
            for empty in ["", " ", "  ", "    "]:
                self.assert_wrong(at + 1, text_of([*lines[:at], empty, *lines[at:]]))
        for text in ["\n", "\n\n", " ", " \n", "\n" + EXAMPLE]:
            self.assert_wrong(1, text)
        self.assert_wrong(14, EXAMPLE + "\n")
        self.assert_wrong(14, EXAMPLE + " ")

    def test_other_line_ends(self):
        self.assert_wrong(1, EXAMPLE.replace("\n", " \n"))
        self.assert_wrong(3, EXAMPLE.replace("check\n", "check \n", 1))

    def test_spaces(self):
        lines = EXAMPLE.splitlines()
        for at, line in enumerate(lines):
            for wrong in [" " + line, "   " + line, line + " ", line.replace(" ", "  "), line.replace(" ", "", 1), line.upper()]:
                if wrong != line:
                    self.assert_wrong(at + 1, text_of([*lines[:at], wrong, *lines[at + 1:]]))


class TestBoxLines(Asserts):
    def test_boxes(self):
        for line, right in [
            ("box a 2", True), ("box a 3", True), ("box a 4", True), ("box a 1", False), ("box a 5", False), ("box a 0", False),
            ("box a 02", False), ("box a +2", False), ("box a", False), ("box a 2 2", False), ("box", False), ("box A 2", False),
            ("box abcdefgh 2", True), ("box abcdefghi 2", False), ("box 1a 2", False), ("box  2", False), ("box a  2", False),
            ("boxa 2", False), ("  box a 2", False), ("first", False), ("first a=0", False), ("hook h", False),
            ("deed d", False), ("open d", False), ("power h ahead fail", False), ("do x", False), ("  do x", False), ("", False),
        ]:
            self.assert_next([], line, right)

    def test_names_are_sorted(self):
        for line, right in [("box b 2", True), ("box a9 2", False), ("box b1 2", True), ("box b 3", True), ("box aa 2", False),
                            ("box ab 2", True), ("box aab 2", True), ("box a 2", False), ("box aa0 2", True), ("box zzzzzzzz 2", True)]:
            self.assert_next(["box aa 2"], line, right)

    def test_states_are_counted(self):
        for sizes, size, right in [("2", 4, True), ("4", 4, True), ("44", 2, False), ("42", 2, True), ("42", 3, False),
                                   ("33", 2, False), ("222", 2, True), ("222", 3, False), ("32", 2, True), ("32", 3, False),
                                   ("2222", 2, False), ("34", 2, False), ("4", 3, True)]:
            lines = [f"box a{at} {many}" for at, many in enumerate(sizes)]
            self.assert_next(lines, f"box b {size}", right)

    def test_first(self):
        for line, right in [
            ("first a=0 b=2", True), ("first a=1 b=0", True), ("first a=2 b=0", False), ("first a=0 b=3", False),
            ("first b=2 a=0", False), ("first a=0", False), ("first a=0 b=2 ", False), ("first  a=0 b=2", False), ("first", False),
            ("first a=0  b=2", False), ("first a=00 b=2", False), ("first a=0 b=2 c=0", False), ("  first a=0 b=2", False),
            ("firsta=0 b=2", False), ("first a=0,b=2", False), ("first ", False), ("hook h", False), ("deed d", False),
        ]:
            self.assert_next(HEAD[:2], line, right)
        for line in ["first a=0 b=2", "box c 2", "first a=0 b=0"]:
            for lines in [HEAD, HOOKS, DEED]:
                self.assert_next(lines, line, False)


class TestHookLines(Asserts):
    def test_hooks(self):
        for line, right in [
            ("hook h", True), ("hook abcdefgh", True), ("hook abcdefghi", False), ("hook", False), ("hook ", False), ("hook H", False),
            ("hook h h", False), (" hook h", False), ("  hook h", False), ("deed d", True), ("open d", True), ("deed", False),
            ("deed d d", False), ("open D", False), ("  do x", False), ("do x", False), ("power h ahead fail", False),
            ("hook a", True), ("hook b", True), ("else", False), ("last", False), ("try", False), ("nothing", False),
        ]:
            self.assert_next(HEAD, line, right)

    def test_names_are_sorted(self):
        for line, right in [("hook h", False), ("hook h0", True), ("hook g9", False), ("hook i", True), ("hook a", False)]:
            self.assert_next([*HOOKS, "  do x"], line, right)

    def test_a_fifth_hook(self):
        lines = [*HEAD, "hook a", "hook b", "hook c"]
        self.assert_next(lines, "hook d", True)
        self.assert_next([*lines, "hook d", "  do x"], "hook e", False)

    def test_no_hooks_behind_deeds(self):
        self.assert_next(DEED, "hook z", False)
        self.assert_next([*DEED, "power g ahead fail"], "hook z", False)

    def test_cores(self):
        for line, right in [("  do x", True), ("  put a 1", True), ("  fail", True), ("  if b 2", True), ("  try", True),
                            ("  guard", True), ("  fire g", False), ("  fire h", False), ("  call low", False), ("  do X", False)]:
            self.assert_next(HOOKS, line, right)
            self.assert_next([*HOOKS, "  try"], "  " + line, right)


class TestDeedLines(Asserts):
    def test_deeds(self):
        for line, right in [
            ("deed z", True), ("open z", True), ("deed a", True), ("deed low", False), ("open low", False), ("open run", False),
            ("deed g", True), ("deed abcdefghi", False), ("deed 1", False), ("power g ahead fail", True), ("deed z ", False),
        ]:
            self.assert_next(DEED, line, right)
            self.assert_next([*DEED, "  do x", "  if a 1"], line, right)

    def test_a_sixth_deed(self):
        lines = [*HEAD, "deed a", "open b", "deed c", "open d"]
        for word in ["deed", "open"]:
            self.assert_next(lines, f"{word} e", True)
            self.assert_next([*lines, "deed e", "  do x"], f"{word} f", False)

    def test_no_deeds_behind_powers(self):
        for word in ["deed", "open"]:
            self.assert_next([*DEED, "power g ahead fail"], f"{word} z", False)

    def test_statements(self):
        for line, right in [
            ("do x", True), ("do", False), ("do x y", False), ("do X", False), ("do abcdefghi", False), ("put a 0", True),
            ("put a 1", True), ("put a 2", False), ("put b 2", True), ("put b 3", False), ("put b 02", False), ("put c 0", False),
            ("put a", False), ("put a 0 0", False), ("put a x", False), ("fire g", True), ("fire h", True), ("fire i", False),
            ("fire", False), ("fire g h", False), ("call low", True), ("call run", False), ("call g", False), ("call", False),
            ("fail", True), ("fail x", False), ("if a 0", True), ("if a 2", False), ("if c 0", False), ("if a", False),
            ("if b 2", True), ("if", False), ("try", True), ("try x", False), ("guard", True), ("guard x", False),
            ("else", False), ("last", False), ("skip", False), ("hook z", False), ("deed z", False), ("box c 2", False),
            ("power g ahead fail", False), ("do\n", False), ("Fail", False), ("fail ", False), ("", False), ("try ", False),
        ]:
            line = line.rstrip("\n")
            self.assert_next(DEED, "  " + line, right)
            self.assert_next([*DEED, "  do x"], "  " + line, right)
            for ahead in ["if a 1", "try", "guard"]:
                self.assert_next([*DEED, "  " + ahead], "    " + line, right)
                self.assert_next([*DEED, "  " + ahead, "    do x"], "    " + line, right)
            for depth in [0, 2, 3]:
                self.assert_next(DEED, "  " * depth + line, depth == 0 and line.startswith(("deed", "power")))
            self.assert_next(DEED, " " + line, False)
            self.assert_next(DEED, "   " + line, False)

    def test_what_can_end(self):
        for lines, line, right in [
            (["  if a 0"], "  do x", True), (["  if a 0"], "  else", True), (["  if a 0"], "deed z", True),
            (["  if a 0"], "  last", False), (["  if a 0"], "else", False), (["  if a 0"], "    else", False),
            (["  if a 0", "  else"], "  do x", False), (["  if a 0", "  else"], "deed z", False), (["  if a 0", "  else"], "  else", False),
            (["  if a 0", "  else"], "    do x", True), (["  if a 0", "  else", "    do x"], "  else", False),
            (["  if a 0", "  else", "    do x"], "  do x", True), (["  if a 0", "    do x"], "  else", True),
            (["  if a 0", "  else"], "power g ahead fail", False), (["  if a 0", "  else", "    fail"], "power g ahead fail", True),
            (["  guard"], "  else", True), (["  guard"], "  last", False), (["  guard"], "open z", True),
            (["  guard", "  else"], "open z", False), (["  guard", "  else"], "  last", False), (["  guard", "  else", "    fail"], "  else", False),
            (["  try"], "  last", True), (["  try"], "  else", False), (["  try"], "  do x", False), (["  try"], "deed z", False),
            (["  try", "    do x"], "  do x", False), (["  try", "    do x"], "  last", True), (["  try"], "power g ahead fail", False),
            (["  try", "  last"], "  last", False), (["  try", "  last"], "  do x", True), (["  try", "  last"], "    do x", True),
            (["  try", "  last"], "deed z", True), (["  try", "  last", "    do x"], "  else", False), (["  try", "  last"], "  else", False),
            (["  do x"], "  else", False), (["  do x"], "  last", False), (["  do x"], "    do x", False),
            (["  if a 0", "    try"], "  else", False), (["  if a 0", "    try", "    last"], "  else", True),
            (["  if a 0", "    guard", "    else"], "  else", False), (["  if a 0", "    guard", "    else", "      fail"], "  else", True),
            (["  try", "    if a 0"], "  last", True), (["  try", "    if a 0"], "  else", False), (["  try", "    if a 0"], "    else", True),
            (["  try", "    if a 0", "    else"], "  last", False), (["  try", "    try", "    last"], "  last", True),
            (["  try", "    try"], "  last", False), (["  try", "  last", "    try"], "deed z", False),
            (["  if a 0", "  else", "    if a 0"], "  do x", True), (["  if a 0", "  else", "    if a 0"], "    else", True),
            (["  if a 0", "  else", "    if a 0"], "  else", False), (["  if a 0", "  else", "    try"], "  do x", False),
        ]:
            self.assert_next([*DEED, *lines], line, right)


class TestPowerLines(Asserts):
    def test_powers(self):
        for line, right in [
            ("g ahead fail", True), ("g ahead answer", True), ("g ahead lend a", True), ("h behind lend b", True),
            ("g around skip", True), ("g around again", True), ("g around swallow", True), ("g behind door low", True),
            ("g behind door run", True), ("g ahead door", False), ("g ahead lend", False), ("g ahead lend low", False),
            ("g ahead door a", False), ("g ahead fail a", False), ("g ahead fail ", False), ("i ahead fail", False),
            ("g beside fail", False), ("g ahead skip", False), ("g around answer", False), ("g behind again", False),
            ("g ahead lend a b", False), ("g ahead", False), ("g", False), ("", False), ("g ahead inner", False),
            ("g ahead fail  ", False), ("g  ahead fail", False), ("low ahead fail", False), ("g ahead lend c", False),
            ("g ahead lend a ", False), ("g ahead door low low", False), ("g ahead fail a b", False),
        ]:
            self.assert_next(DEED, "power " + line, right)
        for line in ["power", "powers g ahead fail", "  power g ahead fail", " power g ahead fail"]:
            self.assert_next(DEED, line, False)

    def test_powers_are_sorted_and_each_once(self):
        powers = [power for power in read_host(text_of(DEED)).all_powers()]
        lines = [" ".join(["power", *power]).rstrip() for power in powers]
        for at, one in enumerate(lines):
            for place, other in enumerate(lines):
                self.assert_next([*DEED, one], other, place > at)
        self.assert_right(text_of([*DEED, *lines]))

    def test_no_power_ahead_of_a_deed(self):
        for lines in [HEAD, HOOKS, HEAD[:2], [*HOOKS, "  do x"]]:
            self.assert_next(lines, "power g ahead fail", False)

    def test_only_powers_behind_powers(self):
        for line in ["deed z", "open z", "hook z", "  do x", "  else", "box c 2", "first a=0 b=0", "", "power"]:
            self.assert_next([*DEED, "power g ahead fail"], line, False)


class TestStatementLimit(Asserts):
    LINES = [*HEAD, "hook g", *["  do x"] * 4, "hook h", "  fail", "deed low", "  do x", "  do x", "open run"]

    def with_statements(self, many):
        """Lines that have so many statements, the last ones within a guard."""
        return [*self.LINES, "  guard", *["    do x"] * (many - 8)]

    def test_a_forty_first_statement(self):
        self.assertEqual(len(read_host(text_of(self.with_statements(40)))), 40)
        for many in [38, 39, 40]:
            for line in ["    do x", "  do x", "    fail", "    if a 0", "  guard", "    put a 1", "  fire g", "  call low"]:
                self.assert_next(self.with_statements(many), line, many < 40)
        for line in ["deed z", "power g ahead fail"]:
            self.assert_next(self.with_statements(40), line, True)
        self.assert_next([*self.with_statements(40), "deed z"], "  do x", False)

    def test_an_else_behind_forty_statements(self):
        for many in [38, 39, 40]:
            self.assert_next(self.with_statements(many), "  else", many < 40)
        lines = [*self.with_statements(39), "  else"]
        self.assert_next(lines, "    fail", True)
        self.assert_next([*lines, "    fail"], "    fail", False)
        for line in ["    guard", "    if a 0"]:
            self.assert_next(lines, line, True)
            self.assert_next([*lines, line], "    else", False)
            self.assert_next([*lines, line], "      do x", False)
            self.assert_right(text_of([*lines, line]))
        self.assert_next([*lines, "    try"], "    last", True)
        self.assert_right(text_of([*lines, "    try", "    last"]))

    def test_a_last_behind_forty_statements(self):
        lines = [*self.LINES, "  try", *["    do x"] * 32]
        self.assert_next(lines, "  last", True)
        self.assertEqual(len(read_host(text_of([*lines, "  last"]))), 40)
        self.assert_next([*lines, "  last"], "    do x", False)
        self.assert_wrong(len(lines) + 1, text_of(lines))
        self.assert_next([*self.LINES, *["  do x"] * 32], "  try", True)
        self.assert_next([*self.LINES, *["  do x"] * 33], "  try", False)

    def test_statements_of_cores_count(self):
        lines = [*HEAD, "hook g", *["  do x"] * 40]
        self.assert_next(lines, "  do x", False)
        self.assert_next(lines, "hook h", True)
        self.assert_right(text_of([*lines, "hook h", "deed z"]))
        self.assert_next([*lines, "hook h"], "  do x", False)
        self.assert_next([*lines, "deed z"], "  fail", False)


class TestChangedTexts(Asserts):
    WORDS = ["do", "put", "fire", "call", "if", "try", "guard", "else", "last", "fail", "box", "first", "hook", "deed", "open",
             "power", "x", "y", "h", "g", "d", "a", "c", "s1", "0", "1", "2", "ahead", "around", "behind", "lend", "door",
             "swallow", "x=0", "x=1", "", " "]

    def changed(self, random_one, lines):
        """Lines that are changed at one place."""
        lines = list(lines)
        at = random_one.randrange(len(lines))
        kind = random_one.randrange(7)
        if kind == 0:
            del lines[at]
        elif kind == 1:
            lines.insert(random_one.randrange(len(lines) + 1), lines[at])
        elif kind == 2:
            place = random_one.randrange(len(lines))
            lines[at], lines[place] = lines[place], lines[at]
        elif kind == 3:
            lines[at] = "  " * random_one.randrange(4) + lines[at].lstrip()
        elif kind == 4:
            words = lines[at].split(" ")
            words[random_one.randrange(len(words))] = random_one.choice(self.WORDS)
            lines[at] = " ".join(words)
        elif kind == 5:
            lines.insert(at, "  " * random_one.randrange(4) + random_one.choice(["else", "last", "try", "guard", "fail", "if x 0"]))
        else:
            lines.insert(at, "  " * random_one.randrange(3) + " ".join(random_one.sample(self.WORDS, random_one.randint(1, 3))))
        return lines

    def test_changed_texts(self):
        right = 0
        for seed in range(120):
            random_one = random.Random(seed)
            host = random_host(seed)
            host = host - random_one.sample(host.powers(), max(0, len(host.powers()) - 5))
            for _ in range(12):
                lines = host_text(host).splitlines()
                for _ in range(random_one.choice([1, 1, 1, 2, 3])):
                    lines = self.changed(random_one, lines) if lines else lines
                text = text_of(lines)
                if random_one.random() < 0.1:
                    text = text[:random_one.randrange(len(text) + 1)]
                wanted = wrong_line(text)
                if wanted is None:
                    right += 1
                    self.assert_right(text)
                else:
                    self.assert_wrong(wanted, text)
        self.assertGreater(right, 50)
