"""The errors that belong to parameters of the same names in many functions."""

from hookvows.basics import is_list, is_name
from hookvows.errors import InvalidHost, InvalidPlay, InvalidPowers, InvalidRank, InvalidScript, InvalidState
from hookvows.errors import InvalidWays, UnknownDeed
from hookvows.hosts import RANKS, Host
from hookvows.programs import FAILED, WELL
from hookvows.scripts import Play, Script


def check_host(host):
    """The host must be a Host."""
    if not isinstance(host, Host):
        raise InvalidHost(host)


def check_deed(host, deed):
    """The deed must be one of the host, open or not."""
    if deed not in host:
        raise UnknownDeed(deed)


def check_state(host, state):
    """The state must be one of the boxes of the host."""
    if state not in host.boxes:
        raise InvalidState(state)


def check_script(script):
    """The script must be a Script."""
    if not isinstance(script, Script):
        raise InvalidScript(None)


def is_play_of(host, value):
    """Whether any value is a Play that calls open deeds of the host alone."""
    return isinstance(value, Play) and all([is_open(host, deed) for deed in value.calls()])


def check_play(host, play):
    """The play must be a Play that calls open deeds of the host alone."""
    if not is_play_of(host, play):
        raise InvalidPlay(play)


def is_open(host, value):
    """Whether any value is the name of an open deed of the host."""
    return is_name(value) and value in host.open_deeds()


def is_rank(value):
    """Whether any value is a rank."""
    # Only a string is looked for: other values may have an == of their own.
    return isinstance(value, str) and value in RANKS


def check_rank(rank):
    """The rank must be a rank."""
    if not is_rank(rank):
        raise InvalidRank(rank)


def is_way(value):
    """Whether any value is a way in which a run can end."""
    return isinstance(value, str) and value in (WELL, FAILED)


def check_way(way):
    """The way must be a way."""
    if not is_way(way):
        raise InvalidWays(way)


def are_powers_of(host, value):
    """Whether any value is a list of different powers of the host, perhaps empty."""
    return is_list(value) and all([host.lets(power) for power in value]) and len(set(value)) == len(value)


def check_powers(host, powers):
    """The powers must be a list of different powers of the host, perhaps empty."""
    if not are_powers_of(host, powers):
        raise InvalidPowers(powers)
