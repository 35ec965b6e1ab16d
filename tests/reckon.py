"""A second reckoning of what any parts can do, written down from the document alone, by plain rounds.

All costs of all runs are reckoned again and again, until nothing becomes cheaper. Own steps are kept as they are done, as
far as a vow asks for them.
"""

from hookvows.hosts import RANKS
from hookvows.statements import Call, Do, Fire, Guard, If, Last, Put
from hookvows.vows import Behind, Kept, Left, Once, Sure, Whole


def least(table, key, cost):
    """Notes the cost for the key, if there is none that is less."""
    if key not in table or cost < table[key]:
        table[key] = cost
        return True
    return False


def joined(*tables):
    """The least costs of all tables."""
    found = {}
    for table in tables:
        for key, cost in table.items():
            least(found, key, cost)
    return found


class Reckoning:
    """The host, with the cost of each outcome: ends[deed, state][way, end]."""

    def __init__(self, host):
        self.host = host
        self.places = {box: place for place, box in enumerate(host.boxes.names())}
        self.ends = {(deed, state): {} for deed in host.deeds() for state in host.boxes.states()}
        while True:
            found = {key: self.outcomes(*key) for key in self.ends}
            if found == self.ends:
                break
            self.ends = found

    def let(self, hook, rank, verb, name=""):
        return (hook, rank, verb, name) in self.host.powers()

    def outcomes(self, deed, state):
        """The costs of the ends of a run, if all runs within it have the costs that are known."""
        return {(way, end): cost for (way, end, _), cost in self.run(deed, state).items()}

    def run(self, deed, state, asked=(), looks=None, calls=None):
        """The costs of the ends of a run: tuples of the way, the state, and those own steps that are asked."""
        told = (asked, {} if looks is None else looks, {} if calls is None else calls)
        well, failed = self.body(self.host.body(deed), {(state, ()): 0}, told)
        found = {}
        for way, table in [("well", well), ("failed", failed)]:
            for (end, steps), cost in table.items():
                least(found, (way, end, steps), cost)
        return found

    def body(self, statements, here, told):
        failed = {}
        for statement in statements:
            here, more = self.do(statement, here, told)
            failed = joined(failed, more)
        return here, failed

    def put(self, state, box, value):
        place = self.places[box]
        return state[:place] + (value,) + state[place + 1:]

    def do(self, statement, here, told):
        """The costs behind the statement, if it ends well, and if it fails."""
        if isinstance(statement, Do):
            # More than three doings tell no more than three.
            return joined(*[
                {(state, (steps + (statement.step,))[:3] if statement.step in told[0] else steps): cost}
                for (state, steps), cost in here.items()
            ]), {}
        if isinstance(statement, Put):
            return {
                (self.put(state, statement.box, statement.value), steps): min(
                    other for (left, rest), other in here.items()
                    if rest == steps
                    and self.put(left, statement.box, statement.value) == self.put(state, statement.box, statement.value)
                ) for state, steps in here
            }, {}
        if isinstance(statement, Fire):
            return self.fire(statement.hook, here, told)
        if isinstance(statement, Call):
            well, failed = {}, {}
            for (state, steps), cost in here.items():
                least(told[2], (statement.deed, state), cost)
                for (way, end), more in self.ends[statement.deed, state].items():
                    least(well if way == "well" else failed, (end, steps), cost + more)
            return well, failed
        if isinstance(statement, If):
            bodies = [{}, {}]
            for (state, steps), cost in here.items():
                bodies[state[self.places[statement.box]] != statement.value][state, steps] = cost
            one, other = [self.body(body, begin, told) for body, begin in zip(statement.bodies(), bodies)]
            return joined(one[0], other[0]), joined(one[1], other[1])
        if isinstance(statement, Last):
            body, last = statement.bodies()
            went, broke = self.body(body, here, told)
            one, other = self.body(last, went, told), self.body(last, broke, told)
            return one[0], joined(one[1], other[0], other[1])
        if isinstance(statement, Guard):
            body, rest = statement.bodies()
            went, broke = self.body(body, here, told)
            well, failed = self.body(rest, broke, told)
            return joined(went, well), failed
        return {}, here

    def acts(self, hook, rank, here, told):
        """The costs of all states in a visit that has more acts: looks, lends and doors; what a look sees is noted."""
        here = dict(here)
        waiting = list(here)
        while waiting:
            state, rest = waiting.pop()
            cost = here[state, rest]
            least(told[1], (hook, rank, state), cost + 1)
            found = {}
            for box in self.host.boxes.names():
                if self.let(hook, rank, "lend", box):
                    for value in range(self.host.boxes.size(box)):
                        least(found, (self.put(state, box, value), rest), cost + 1)
            for deed in self.host.deeds():
                if self.let(hook, rank, "door", deed):
                    least(told[2], (deed, state), cost + 1)
                    for (_, end), more in self.ends[deed, state].items():
                        least(found, (end, rest), cost + 1 + more)
            for key, more in found.items():
                if least(here, key, more):
                    waiting.append(key)
        return here

    def core(self, hook, here, told):
        return self.body(self.host.core(hook), here, told)

    def fire(self, hook, here, told):
        failed = {}

        def dearer(table, more=1):
            return {key: cost + more for key, cost in table.items()}

        def can_fail(rank, table):
            return dearer(table) if self.let(hook, rank, "fail") else {}

        ahead = self.acts(hook, "ahead", here, told)
        failed = joined(failed, can_fail("ahead", ahead))
        answered = dearer(ahead) if self.let(hook, "ahead", "answer") else {}
        fresh = self.acts(hook, "around", ahead, told)
        failed = joined(failed, can_fail("around", fresh))
        passed = dearer(fresh) if self.let(hook, "around", "skip") else {}
        # What is within comes without an act.
        well, broken = self.core(hook, fresh, told)
        passed, failed = joined(passed, well), joined(failed, broken)
        # What is within comes by an act, perhaps again and again.
        good, bad = {}, {}
        begun = [fresh, {}]
        while True:
            came, broke = self.core(hook, dearer(begun[0]), told)
            good_now, bad_now = came, broke
            if self.let(hook, "around", "swallow"):
                good_now = joined(good_now, broke)
            came, broke = self.core(hook, dearer(begun[1]), told)
            bad_now = joined(bad_now, came, broke)
            good_now = self.acts(hook, "around", joined(good, good_now), told)
            bad_now = self.acts(hook, "around", joined(bad, bad_now), told)
            if (good_now, bad_now) == (good, bad):
                break
            good, bad = good_now, bad_now
            begun = [good, bad] if self.let(hook, "around", "again") else [fresh, {}]
        failed = joined(failed, bad, can_fail("around", good), can_fail("around", bad))
        behind = self.acts(hook, "behind", joined(passed, good), told)
        return joined(behind, answered), joined(failed, can_fail("behind", behind))

    def stands(self):
        """The least cost of the calls ahead of each state between calls."""
        found = {self.host.first: 0}
        waiting = [self.host.first]
        while waiting:
            state = waiting.pop()
            for deed in self.host.open_deeds():
                for (_, end), more in self.ends[deed, state].items():
                    if least(found, end, found[state] + 1 + more):
                        waiting.append(end)
        return found

    def begins(self):
        """The least cost ahead of the begin of a run of each deed in each state, of those in which one begins."""
        found = {(deed, state): cost + 1 for state, cost in self.stands().items() for deed in self.host.open_deeds()}
        waiting = list(found)
        while waiting:
            key = waiting.pop()
            calls = {}
            self.run(*key, calls=calls)
            for call, more in calls.items():
                if least(found, call, found[key] + more):
                    waiting.append(call)
        return found

    def looks(self):
        """The least cost of a look at each hook and rank that sees each state, the look itself included."""
        found = {}
        for key, cost in self.begins().items():
            looks = {}
            self.run(*key, looks=looks)
            for look, more in looks.items():
                least(found, look, cost + more)
        return found

    def record(self):
        """The least record."""
        begins = self.begins()
        table = {key: sorted(self.ends[key]) for key in sorted(self.ends)}
        entries = {
            deed: sorted(state for name, state in begins if name == deed) for deed in sorted(self.host.deeds())
        }
        return table, entries, sorted(self.stands())

    def sights(self):
        """The sights of all hooks and ranks."""
        looks = self.looks()
        return {
            (hook, rank): sorted(state for one, other, state in looks if (one, other) == (hook, rank))
            for hook in sorted(self.host.hooks()) for rank in RANKS
        }

    def breaking_cost(self, vow):
        """The least cost of a play that breaks the vow; None."""
        found = {}
        if isinstance(vow, Kept):
            for state, cost in self.stands().items():
                if state not in vow.allowed.states():
                    least(found, "", cost)
        elif isinstance(vow, Whole):
            for (hook, _, state), cost in self.looks().items():
                if hook == vow.hook and state not in vow.allowed.states():
                    least(found, "", cost)
        else:
            for (deed, state), cost in self.begins().items():
                if deed == vow.deed:
                    asked = {getattr(vow, name) for name in ["step", "first"] if hasattr(vow, name)}
                    for (way, end, steps), more in self.run(deed, state, asked).items():
                        if breaks_run(vow, state, steps, way, end):
                            least(found, "", cost + more)
        return found.get("")


def breaks_run(vow, state, steps, way, end):
    """Whether a run from the state with these own steps that ends so breaks the vow of its deed."""
    if isinstance(vow, Sure):
        return way in vow.ways() and vow.step not in steps
    if isinstance(vow, Once):
        return steps.count(vow.step) > 1
    if isinstance(vow, Behind):
        return vow.step in steps and vow.first not in steps[:steps.index(vow.step)]
    assert isinstance(vow, Left)
    return state in vow.begin.states() and way in vow.ways() and end not in vow.ends.states()
