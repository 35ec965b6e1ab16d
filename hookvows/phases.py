"""What can happen at a firing with one part at each rank, which does what any parts can do.

A firing goes from phase to phase. A move of a phase is a tuple (act, word, well, failed): the act that makes it, or
None if it comes when the visit has done its acts; the word tells what it does: look, lend, door, core or pass; it leads
to the phase well, or, if a core comes and fails, to the phase failed.
"""

AHEAD = 0
# The visit around, as long as what is within has not come.
AROUND = 1
# The same visit, when it has come: it has not failed, or else this was swallowed.
CAME = 2
# The same visit, when it has come and failed.
BROKEN = 3
BEHIND = 4
ENDED_WELL = 5
ENDED_FAILED = 6

# The rank of the visit that goes on in each phase but the two ends.
RANK_OF = ("ahead", "around", "around", "around", "behind")
MANY_PHASES = 7


def phases_of(host, hook):
    """For each phase but the two ends the list of its moves, at firings of the hook."""
    return [_common_moves(host, hook, phase) + _own_moves(host, hook, phase) for phase in range(len(RANK_OF))]


def _common_moves(host, hook, phase):
    """The moves of all phases alike, which do not leave the phase, but for the act fail."""
    rank = RANK_OF[phase]
    moves = [(("look",), "look", phase, phase)]
    for box in host.boxes.names():
        if host.lets((hook, rank, "lend", box)):
            size = host.boxes.size(box)
            moves.extend([(("lend", box, value), "lend", phase, phase) for value in range(size)])
    for deed in host.deeds():
        if host.lets((hook, rank, "door", deed)):
            moves.append((("door", deed), "door", phase, phase))
    if host.lets((hook, rank, "fail", "")):
        moves.append((("fail",), "pass", ENDED_FAILED, ENDED_FAILED))
    return moves


def _own_moves(host, hook, phase):
    if phase == AHEAD:
        own = [(None, "pass", AROUND, AROUND)]
        return own + _if_let(host, hook, phase, [(("answer",), "pass", ENDED_WELL, ENDED_WELL)])
    if phase == AROUND:
        own = [(None, "core", BEHIND, ENDED_FAILED), (("inner",), "core", CAME, BROKEN)]
        own.extend(_if_let(host, hook, phase, [(("swallow",), "core", CAME, CAME)]))
        return own + _if_let(host, hook, phase, [(("skip",), "pass", BEHIND, BEHIND)])
    if phase == BEHIND:
        return [(None, "pass", ENDED_WELL, ENDED_WELL)]
    # To skip what has come already is no more than to do no act.
    own = [(None, "pass", BEHIND, BEHIND) if phase == CAME else (None, "pass", ENDED_FAILED, ENDED_FAILED)]
    if host.lets((hook, RANK_OF[phase], "again", "")):
        own.append((("inner",), "core", phase, BROKEN))
        own.extend(_if_let(host, hook, phase, [(("swallow",), "core", phase, phase)]))
    return own


def _if_let(host, hook, phase, moves):
    """Those of the moves whose acts, which have the name of their verb, are let."""
    return [move for move in moves if host.lets((hook, RANK_OF[phase], move[0][0], ""))]
