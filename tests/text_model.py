"""A second way to find the wrong line of a text: a host is put together carelessly, and its text is compared.

Lines can be the beginning of a text if they are one when the least is put behind them that they lack.
"""

from hookvows.boxes import Boxes
from hookvows.errors import HookError, LimitError, MissingError
from hookvows.hosts import Host
from hookvows.statements import Call, Do, Fail, Fire, Guard, If, Last, Put
from hookvows.texts import host_text


def depth_of(line):
    """How many spaces stand ahead of a line, in twos."""
    return (len(line) - len(line.lstrip(" "))) // 2


def within(lines, at, depth):
    """The statements that stand so deep from this line on, and the line behind them."""
    found = []
    while at < len(lines) and depth_of(lines[at]) >= depth:
        words = lines[at].split()
        if words[0] in ("else", "last"):
            break
        at += 1
        if words[0] in ("if", "try", "guard"):
            body, at = within(lines, at, depth + 1)
            other = []
            if at < len(lines) and depth_of(lines[at]) == depth and lines[at].split()[0] in ("else", "last"):
                other, at = within(lines, at + 1, depth + 1)
            made = {"if": lambda: If(words[1], int(words[2]), body, other), "try": lambda: Last(body, other),
                    "guard": lambda: Guard(body, other)}
            found.append(made[words[0]]())
        else:
            made = {"do": Do, "put": lambda box, value: Put(box, int(value)), "fire": Fire, "call": Call, "fail": Fail}
            found.append(made[words[0]](*words[1:]))
    return found, at


def careless_host(lines):
    """A host of these lines, whatever they look like."""
    sizes, first, hooks, deeds, open_deeds, powers = {}, "", {}, [], [], []
    at = 0
    while at < len(lines):
        words = lines[at].split()
        at += 1
        if words[0] == "box":
            sizes[words[1]] = int(words[2])
        elif words[0] == "first":
            first = tuple(int(word.split("=")[1]) for word in words[1:])
        elif words[0] == "power":
            powers.append(tuple([*words[1:], "", ""][:4]))
        else:
            body, at = within(lines, at, 1)
            if words[0] == "hook":
                hooks[words[1]] = body
            else:
                deeds.append((words[1], body))
                open_deeds += [words[1]] * (words[0] == "open")
    return Host(Boxes(sizes), first, deeds, hooks, open_deeds, powers)


def is_text(lines):
    """Whether these are the lines of the text of a host."""
    try:
        return host_text(careless_host(lines)) == "".join(line + "\n" for line in lines)
    except (HookError, LimitError, MissingError, LookupError, ValueError, TypeError):
        return False


def lacking(lines):
    """The least lines that can make a text of these when they are put behind."""
    if not any(line.startswith("first") for line in lines):
        names = [line.split()[1] for line in lines if len(line.split()) > 1]
        return ["first " + " ".join(f"{name}=0" for name in names), "deed zz"]
    more = []
    if lines[-1].strip() == "else":
        more.append("  " * (depth_of(lines[-1]) + 1) + "fail")
    tries = []
    for line in [*lines, *more]:
        tries = [depth for depth in tries if depth < depth_of(line)]
        if line.strip() == "try":
            tries.append(depth_of(line))
    more += ["  " * depth + "last" for depth in tries[::-1]]
    if not any(line.startswith(("deed ", "open ")) for line in lines):
        more.append("deed zz")
    return more


def can_begin(lines):
    """Whether a text of a host can begin with these lines."""
    return lines == [] or is_text([*lines, *lacking(lines)])


def wrong_line(text):
    """The wrong line of a text; None if it is the text of a host."""
    lines = text.split("\n")
    unended = lines.pop()
    for number in range(1, len(lines) + 1):
        if not can_begin(lines[:number]):
            return number
    return None if unended == "" and is_text(lines) else len(lines) + 1
