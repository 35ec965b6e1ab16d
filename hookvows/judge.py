"""Claims about hosts, and certificates, which show that a claim is true."""

from hookvows.alike import can_compare, parting_play, sightings
from hookvows.checks import are_powers_of, is_play_of, is_way
from hookvows.errors import InvalidClaim
from hookvows.hosts import Host
from hookvows.live import run_script
from hookvows.plays import breaking_play, script_to
from hookvows.records import is_record, outcomes, record
from hookvows.scripts import Script
from hookvows.vows import are_kept, are_vows_of, breaks, is_kept, is_vow_of, shows, shows_all

# How many parts the claims have, the word included.
PARTS = {"kept": 3, "broken": 3, "ends": 6, "never": 6, "seals": 4, "parted": 3}


def is_claim(value):
    """Whether any value is a claim."""
    if not isinstance(value, tuple) or len(value) == 0 or not isinstance(value[0], str):
        return False
    word = value[0]
    if word not in PARTS or len(value) != PARTS[word] or not isinstance(value[1], Host):
        return False
    host = value[1]
    if word == "kept" or word == "broken":
        return is_vow_of(host, value[2])
    if word == "seals":
        return are_vows_of(host, value[2]) and are_powers_of(host, value[3])
    if word == "parted":
        return isinstance(value[2], Host) and can_compare(host, value[2])
    _, _, deed, state, way, end = value
    return deed in host and state in host.boxes and is_way(way) and end in host.boxes


def is_certificate(claim, value):
    """Whether the claim is true and any value is a certificate of it."""
    _check_claim(claim)
    word, host = claim[:2]
    if word == "kept":
        return shows(host, value, claim[2])
    if word == "broken":
        return is_play_of(host, value) and breaks(host, value, claim[2])
    if word == "seals":
        return shows_all(host - claim[3], value, claim[2])
    if word == "parted":
        return is_play_of(host, value) and sightings(host, value) != sightings(claim[2], value)
    _, _, deed, state, way, end = claim
    if word == "never":
        return is_record(host, value) and (way, end) not in value[0][(deed, state)]
    if not isinstance(value, Script):
        return False
    run = run_script(host, deed, state, value)
    return (run.way, run.state) == (way, end)


def certificate_of(claim):
    """A certificate of the claim; None if it is not true."""
    _check_claim(claim)
    word, host = claim[:2]
    if word == "kept":
        return record(host) if is_kept(host, claim[2]) else None
    if word == "broken":
        return breaking_play(host, claim[2])
    if word == "seals":
        sealed = host - claim[3]
        return record(sealed) if are_kept(sealed, claim[2]) else None
    if word == "parted":
        return parting_play(host, claim[2])
    _, _, deed, state, way, end = claim
    if word == "ends":
        return script_to(host, deed, state, way, end)
    return None if (way, end) in outcomes(host, deed, state) else record(host)


def _check_claim(claim):
    if not is_claim(claim):
        raise InvalidClaim(claim)
