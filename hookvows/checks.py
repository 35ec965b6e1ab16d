"""The errors that belong to parameters of the same names in many functions."""

from hookvows.basics import is_name
from hookvows.errors import InvalidHost, InvalidPlay, InvalidRank, InvalidScript, InvalidState, UnknownDeed
from hookvows.hosts import RANKS, Host
from hookvows.scripts import Play, Script


def check_host(host):
    """The host must be a Host."""
    if not isinstance(host, Host):
        raise InvalidHost(host)


def check_deed(host, deed):
    """The deed must be one of the host, open or not."""
    if deed not in host:
        raise UnknownDeed(deed)


def check_state(host, state):
    """The state must be one of the boxes of the host."""
    if state not in host.boxes:
        raise InvalidState(state)


def check_script(script):
    """The script must be a Script."""
    if not isinstance(script, Script):
        raise InvalidScript(None)


def check_play(host, play):
    """The play must be a Play that calls open deeds of the host alone."""
    if not isinstance(play, Play) or not all([is_open(host, deed) for deed in play.calls()]):
        raise InvalidPlay(play)


def is_open(host, value):
    """Whether any value is the name of an open deed of the host."""
    return is_name(value) and value in host.open_deeds()


def is_rank(value):
    """Whether any value is a rank."""
    # Only a string is looked for: other values may have an == of their own.
    return isinstance(value, str) and value in RANKS


def check_rank(rank):
    """The rank must be a rank."""
    if not is_rank(rank):
        raise InvalidRank(rank)
