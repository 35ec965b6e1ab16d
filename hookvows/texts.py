"""The text of a host, and the host of a text."""

from hookvows.basics import is_name
from hookvows.boxes import Boxes
from hookvows.errors import InvalidState, InvalidText
from hookvows.hosts import Host, is_power
from hookvows.statements import Call, Do, Fail, Fire, Guard, If, Last, Put

MARGIN = "  "
SIZES = ("2", "3", "4")


def host_text(host):
    """The text of the host."""
    boxes = host.boxes
    lines = [f"box {name} {boxes.size(name)}" for name in boxes.names()]
    lines.append("first " + boxes.text(host.first))
    for hook in host.hooks():
        lines.append("hook " + hook)
        lines.extend(_lines_of(host.core(hook), MARGIN))
    for deed in host.deeds():
        lines.append(("open " if deed in host.open_deeds() else "deed ") + deed)
        lines.extend(_lines_of(host.body(deed), MARGIN))
    for power in host.powers():
        lines.append(_power_line(power))
    return "".join([line + "\n" for line in lines])


def _power_line(power):
    return " ".join(["power", *[word for word in power if word != ""]])


def _lines_of(body, margin):
    lines = []
    for statement in body:
        lines.append(margin + _head_of(statement))
        if isinstance(statement, If) or isinstance(statement, Guard) or isinstance(statement, Last):
            within, other = statement.bodies()
            lines.extend(_lines_of(within, margin + MARGIN))
            if isinstance(statement, Last):
                lines.append(margin + "last")
            elif len(other) > 0:
                lines.append(margin + "else")
            lines.extend(_lines_of(other, margin + MARGIN))
    return lines


def _head_of(statement):
    if isinstance(statement, Do):
        return "do " + statement.step
    if isinstance(statement, Put):
        return f"put {statement.box} {statement.value}"
    if isinstance(statement, Fire):
        return "fire " + statement.hook
    if isinstance(statement, Call):
        return "call " + statement.deed
    if isinstance(statement, If):
        return f"if {statement.box} {statement.value}"
    if isinstance(statement, Last):
        return "try"
    return "guard" if isinstance(statement, Guard) else "fail"


def read_host(text):
    """The host that has this text."""
    if not isinstance(text, str):
        raise InvalidText(None)
    lines = text.split("\n")
    unended = lines.pop()
    reader = Reader()
    for number, line in enumerate(lines, start=1):
        if not reader.takes(line):
            raise InvalidText(number)
    host = reader.whole_host()
    # What stands behind the last line feed is a wrong line; without it, the line that is not there is wrong.
    if unended != "" or host is None:
        raise InvalidText(len(lines) + 1)
    return host


class Block:
    """A body that is read, of a deed or a hook; or a statement with two bodies, of which the first is read first."""

    def __init__(self, words):
        self._words = list(words)
        self._bodies = [[]]

    def take(self, statement):
        """Takes the next statement of the body that is read."""
        self._bodies[-1].append(statement)

    def body(self):
        """The list of the statements of the first body."""
        return list(self._bodies[0])

    def turns_with(self, word):
        """Whether the line with this word can come, behind which the second body stands."""
        wanted = "last" if self._words[0] == "try" else "else"
        return len(self._bodies) == 1 and word == wanted

    def turn(self):
        """Goes over to the second body."""
        self._bodies.append([])

    def can_end(self):
        """Whether the statement can be over here."""
        if self._words[0] == "try":
            return len(self._bodies) == 2
        return len(self._bodies) == 1 or len(self._bodies[1]) > 0

    def statement(self):
        """The statement, with what has been read."""
        bodies = self._bodies if len(self._bodies) == 2 else [self._bodies[0], []]
        if self._words[0] == "try":
            return Last(bodies[0], bodies[1])
        if self._words[0] == "guard":
            return Guard(bodies[0], bodies[1])
        return If(self._words[1], int(self._words[2]), bodies[0], bodies[1])


class Reader:
    """What has been read of a text: as long as it takes the lines, a text of a host can begin with them."""

    def __init__(self):
        self._sizes = {}
        self._boxes = None
        self._first = None
        self._hooks = {}
        self._deeds = {}
        self._open_ones = []
        self._powers = []
        # The words of the line that began the present deed or hook, and what is open within one another in it.
        self._head = []
        self._blocks = []
        self._statements = 0

    def whole_host(self):
        """The host that has been read; None if its text goes on."""
        if not self._ends_body() or len(self._deeds) == 0:
            return None
        deeds = list(self._deeds.items())
        return Host(self._boxes, self._first, deeds, self._hooks, self._open_ones, self._powers)

    def takes(self, line):
        """Takes the next line; whether a text of a host can begin so."""
        told = line.lstrip(" ")
        margin = len(line) - len(told)
        words = told.split(" ")
        if margin > 0:
            depth = margin // len(MARGIN)
            return margin == depth * len(MARGIN) and self._takes_within(depth, words)
        if words[0] == "box":
            return self._takes_box(words)
        if words[0] == "first":
            return self._takes_first(line)
        if self._boxes is None or not self._ends_body():
            return False
        if words[0] == "power":
            return self._takes_power(line, words)
        return self._takes_head(words)

    def _takes_box(self, words):
        if self._boxes is not None or len(words) != 3 or words[2] not in SIZES:
            return False
        if not _is_next_name(words[1], list(self._sizes)):
            return False
        self._sizes[words[1]] = int(words[2])
        states = 1
        for size in self._sizes.values():
            states = states * size
        return len(self._sizes) <= Boxes.MOST_BOXES and states <= Boxes.MOST_STATES

    def _takes_first(self, line):
        if self._boxes is not None or len(self._sizes) == 0:
            return False
        self._boxes = Boxes(self._sizes)
        try:
            self._first = self._boxes.read(line[len("first "):])
        except InvalidState:
            return False
        return True

    def _takes_head(self, words):
        if len(words) != 2:
            return False
        word, name = words
        if word == "hook":
            fits = _is_next_name(name, list(self._hooks)) and len(self._deeds) == 0
            room = len(self._hooks) < Host.MOST_HOOKS
        elif word == "deed" or word == "open":
            fits = is_name(name) and name not in self._deeds and len(self._powers) == 0
            room = len(self._deeds) < Host.MOST_DEEDS
        else:
            return False
        self._head = words
        self._blocks = [Block(words)]
        return fits and room

    def _takes_power(self, line, words):
        power = tuple([*words[1:], ""][:4])
        # The line is made again: it must neither have a word too many nor an empty one.
        if not is_power(power, self._boxes, list(self._deeds), list(self._hooks)) or line != _power_line(power):
            return False
        if len(self._deeds) == 0 or (len(self._powers) > 0 and power <= self._powers[-1]):
            return False
        self._powers.append(power)
        return True

    def _takes_within(self, depth, words):
        """Takes a line so deep in a body: a statement, or the line between the two bodies of one."""
        if words == ["else"] or words == ["last"]:
            return self._takes_turn(depth, words[0])
        if self._statements == Host.MOST_STATEMENTS or not self._is_left(depth):
            return False
        self._statements += 1
        if words == ["try"] or words == ["guard"] or (words[0] == "if" and self._is_value(words)):
            self._blocks.append(Block(words))
            return True
        statement = self._plain_statement(words)
        if statement is None:
            return False
        self._blocks[-1].take(statement)
        return True

    def _takes_turn(self, depth, word):
        # An other body is not empty, so that behind else there must be room for a statement.
        if word == "else" and self._statements == Host.MOST_STATEMENTS:
            return False
        if not self._is_left(depth + 1) or not self._blocks[-1].turns_with(word):
            return False
        self._blocks[-1].turn()
        return True

    def _plain_statement(self, words):
        """The statement of these words; None if there is none that fits here."""
        if words == ["fail"]:
            return Fail()
        if words[0] == "put" and self._is_value(words):
            return Put(words[1], int(words[2]))
        if len(words) != 2:
            return None
        word, name = words
        if word == "do" and is_name(name):
            return Do(name)
        if word == "fire" and name in self._hooks and self._head[0] != "hook":
            return Fire(name)
        # The present deed is not yet among the deeds, and while hooks are read there is none.
        if word == "call" and name in self._deeds:
            return Call(name)
        return None

    def _is_value(self, words):
        if len(words) != 3 or words[1] not in self._sizes:
            return False
        return words[2] in [str(value) for value in range(self._sizes[words[1]])]

    def _is_left(self, many):
        """Ends what is deeper; whether so many bodies are open within one another then."""
        while len(self._blocks) > many:
            block = self._blocks.pop()
            if not block.can_end():
                return False
            self._blocks[-1].take(block.statement())
        return len(self._blocks) == many

    def _ends_body(self):
        """Ends the body of the present deed or hook; whether it can be over here."""
        if len(self._blocks) == 0:
            return True
        if not self._is_left(1):
            return False
        body = self._blocks.pop().body()
        if self._head[0] == "hook":
            self._hooks[self._head[1]] = body
        else:
            self._deeds[self._head[1]] = body
            if self._head[0] == "open":
                self._open_ones.append(self._head[1])
        return True


def _is_next_name(value, names):
    """Whether any value is a name that stands behind all these in a sorted list."""
    return is_name(value) and all([name < value for name in names])
