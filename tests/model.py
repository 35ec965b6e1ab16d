"""A second way to reckon runs, written down from the document alone: plain recursion, errors for what ends at once."""

import random

from hookvows.boxes import Boxes
from hookvows.hosts import RANKS, Host
from hookvows.scripts import Script
from hookvows.statements import Call, Do, Fail, Fire, Guard, If, Last, Put


class Over(Exception):
    """An act has ended the firing."""

    def __init__(self, firing, way):
        super().__init__(way)
        self.firing = firing
        self.way = way


class Core:
    """A coming of a core, as it stands in a row."""

    def __init__(self):
        self.swallowed = False


class Model:
    """A run with parts, each a tuple of a rank and a list of rows, which may be shared by several parts."""

    def __init__(self, host, state, parts):
        self.host = host
        self.powers = host.powers()
        self.values = dict(zip(host.boxes.names(), state))
        self.parts = {rank: [rows for at, rows in parts if at == rank] for rank in RANKS}
        self.trace = []
        # The sightings of [81], with the steps, without the ends of calls from outside.
        self.shown = []
        self.one_rows = []

    def state(self):
        return tuple(self.values.values())

    def rows(self):
        """The rows of [36]."""
        words = {True: ("swallow",), False: ("inner",)}
        return [[words[act.swallowed] if isinstance(act, Core) else act for act in row] for row in self.one_rows]

    def run(self, deed):
        self.trace.append(("called", deed))
        way = "well" if self.body(self.host.body(deed)) else "failed"
        self.trace.append(("ended", deed, way, self.state()))
        return way

    def body(self, statements):
        return all(self.do(statement) for statement in statements)

    def do(self, statement):
        """Does the statement; whether it ended well."""
        if isinstance(statement, Do):
            self.trace.append(("did", statement.step))
            self.shown.append(("did", statement.step))
        elif isinstance(statement, Put):
            self.values[statement.box] = statement.value
        elif isinstance(statement, Fire):
            return self.fire(statement.hook)
        elif isinstance(statement, Call):
            return self.run(statement.deed) == "well"
        elif isinstance(statement, If):
            body, other = statement.bodies()
            return self.body(body if self.values[statement.box] == statement.value else other)
        elif isinstance(statement, Last):
            body, last = statement.bodies()
            went = self.body(body)
            return self.body(last) and went
        elif isinstance(statement, Guard):
            body, other = statement.bodies()
            return self.body(body) or self.body(other)
        return not isinstance(statement, Fail)

    def fire(self, hook):
        self.trace.append(("fired", hook))
        firing = object()
        try:
            row = self.new_row()
            for rows in self.parts["ahead"]:
                self.visit(firing, hook, "ahead", rows, 0, row)
            row = self.new_row()
            failures = self.within(firing, hook, 0, row)
            if not any(isinstance(act, Core) for act in row):
                row.append(("skip",))
            if failures:
                return False
            row = self.new_row()
            for rows in self.parts["behind"]:
                self.visit(firing, hook, "behind", rows, 0, row)
        except Over as over:
            if over.firing is not firing:
                raise
            return over.way == "well"
        return True

    def new_row(self):
        self.one_rows.append([])
        return self.one_rows[-1]

    def within(self, firing, hook, level, row):
        """The failures of the core that were not swallowed in what is so far within."""
        if level < len(self.parts["around"]):
            return self.visit(firing, hook, "around", self.parts["around"][level], level, row)
        core = Core()
        row.append(core)
        return [] if self.body(self.host.core(hook)) else [core]

    def visit(self, firing, hook, rank, rows, level, row):
        self.trace.append(("visited", hook, rank))
        self.shown.append(("visited", hook, rank))
        failures, came, skipped = [], False, False

        def has(verb, name=""):
            return (hook, rank, verb, name) in self.powers

        for act in rows.pop(0) if rows else []:
            word = act[0]
            if word in ("inner", "swallow"):
                let = rank == "around" and (word == "inner" or has("swallow")) and (not came or has("again"))
                if not let:
                    continue
                came = True
                told = self.within(firing, hook, level + 1, row)
                self.shown.append(("inner", "failed" if told else "well"))
                if word == "swallow":
                    for core in told:
                        core.swallowed = True
                else:
                    failures += told
            elif word == "skip":
                if has("skip"):
                    skipped = True
                    break
            elif word == "look":
                row.append(act)
                self.trace.append(("looked", hook, rank, self.state()))
                self.shown.append(("looked", self.state()))
            elif word == "lend":
                if has("lend", act[1]) and act[2] < self.host.boxes.size(act[1]):
                    row.append(act)
                    self.values[act[1]] = act[2]
            elif word == "door":
                if has("door", act[1]):
                    row.append(act)
                    self.shown.append(("door", act[1], self.run(act[1])))
            elif has(word):
                row.append(act)
                raise Over(firing, {"answer": "well", "fail": "failed"}[word])
        if rank == "around" and not came and not skipped:
            failures += self.within(firing, hook, level + 1, row)
        return failures


def model_run(host, deed, state, parts):
    """The Model behind the run, with parts that are tuples of a rank and a Script."""
    model = Model(host, state, [(rank, script.rows()) for rank, script in parts])
    model.run(deed)
    return model


def model_script(host, deed, state, script):
    """The Model behind the run, with one part at each rank, all driven by the script."""
    rows = script.rows()
    model = Model(host, state, [(rank, rows) for rank in RANKS])
    model.run(deed)
    return model


STEPS = ["s1", "s2", "s3"]


def random_body(random_one, boxes, deeds, hooks, depth=3, most=3):
    """A body with these boxes, deeds and hooks."""
    kinds = [Do, Put, Fail, If, Last, Guard]
    kinds += [Fire] * 4 * bool(hooks) + [Call] * 2 * bool(deeds)
    kinds = [kind for kind in kinds if depth > 0 or kind not in (If, Last, Guard)]
    found = []
    for _ in range(random_one.randint(0, most)):
        kind = random_one.choice(kinds)
        box = random_one.choice(boxes.names())
        value = random_one.randrange(boxes.size(box))
        bodies = []
        if kind in (If, Last, Guard):
            bodies = [random_body(random_one, boxes, deeds, hooks, depth - 1, most) for _ in range(2)]
        found.append({
            Do: lambda: Do(random_one.choice(STEPS)),
            Put: lambda: Put(box, value),
            Fire: lambda: Fire(random_one.choice(hooks)),
            Call: lambda: Call(random_one.choice(deeds)),
            If: lambda: If(box, value, *bodies),
            Last: lambda: Last(*bodies),
            Guard: lambda: Guard(*bodies),
            Fail: Fail,
        }[kind]())
    return found


def random_host(seed):
    """A host for this seed, always the same one."""
    random_one = random.Random(seed)
    boxes = Boxes({name: random_one.randint(2, 3) for name in ["x", "y"][:random_one.randint(1, 2)]})
    hook_names = ["h", "g"][:random_one.choice([0, 1, 1, 1, 2, 2])]
    while True:
        deeds, names = [], []
        for name in ["d", "a", "c"][:random_one.randint(1, 3)]:
            deeds.append((name, random_body(random_one, boxes, list(names), hook_names)))
            names.append(name)
        hooks = {name: random_body(random_one, boxes, [], [], 2, 2) for name in hook_names}
        bodies = [body for _, body in deeds] + list(hooks.values())
        if sum(statement.many() for body in bodies for statement in body) <= Host.MOST_STATEMENTS:
            break
    open_deeds = random_one.sample(names, random_one.randint(1, len(names)))
    host = Host(boxes, random_one.choice(boxes.states()), deeds, hooks, open_deeds, [])
    chance = random_one.choice([0, 0.5, 0.8, 1, 1])
    return host + [power for power in host.all_powers() if random_one.random() < chance]


def random_act(random_one, host):
    """An act, one that is let or not, or that means nothing at this host."""
    word = random_one.choice(
        ["look", "look", "lend", "lend", "door", "door", "inner", "inner", "inner", "swallow", "swallow", "answer",
         "skip", "fail"]
    )
    if word == "lend":
        return ("lend", random_one.choice(host.boxes.names()), random_one.randrange(2))
    if word == "door":
        return ("door", random_one.choice(host.deeds()))
    return (word,)


def random_script(random_one, host, most_rows=12, most_acts=4):
    """A script of acts for this host."""
    rows = []
    for _ in range(random_one.randint(0, most_rows)):
        rows.append([random_act(random_one, host) for _ in range(random_one.randint(0, most_acts))])
    return Script(*rows)


def random_parts(random_one, host, most=5):
    """Parts for this host, several at one rank among them."""
    ranks = [random_one.choice(RANKS + ("around", "around")) for _ in range(random_one.randint(0, most))]
    return [(rank, random_script(random_one, host, 5)) for rank in ranks]
