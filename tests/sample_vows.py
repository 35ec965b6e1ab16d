"""Vows for the tests."""

from hookvows.sets import States
from hookvows.vows import Behind, Kept, Left, Once, Sure, Whole
from tests.model import STEPS


def random_states(random_one, boxes, chance=0.6):
    """Some of the states."""
    return States(boxes, [state for state in boxes.states() if random_one.random() < chance])


def random_ways(random_one):
    """No, one or two ways, in any sequence."""
    return random_one.sample(["well", "failed"], random_one.randint(0, 2))


def random_vows(random_one, host):
    """One vow of each kind that the host can have."""
    def deed():
        return random_one.choice(host.deeds())

    def step():
        return random_one.choice(STEPS)

    found = [
        Sure(deed(), step(), *random_ways(random_one)), Once(deed(), step()), Behind(deed(), step(), step()),
        Left(deed(), random_states(random_one, host.boxes), random_states(random_one, host.boxes), *random_ways(random_one)),
        Kept(random_states(random_one, host.boxes, 0.8)),
    ]
    if host.hooks():
        found.append(Whole(random_one.choice(host.hooks()), random_states(random_one, host.boxes)))
    return found
