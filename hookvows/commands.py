"""The commands of a desk, as texts."""

from hookvows.basics import is_name
from hookvows.checks import is_rank
from hookvows.errors import InvalidCommand, InvalidState
from hookvows.hosts import VERBS

# The verbs behind which a name stands in a power.
NAMING_VERBS = ("lend", "door")


def read_command(boxes, command):
    """The list of the word of a command and what it is for: a power, or a name, or a deed and a state of the boxes."""
    words = command.split(" ") if isinstance(command, str) else [""]
    word = words[0]
    if (word == "undo" or word == "broken") and len(words) == 1:
        return [word]
    if (word == "drop" or word == "cost") and len(words) == 2 and is_name(words[1]):
        return words
    if (word == "seal" or word == "give") and _are_of_a_power(words[1:]):
        return [word, tuple([*words[1:], ""][:4])]
    if word == "outcomes" and len(words) > 2 and is_name(words[1]):
        try:
            state = boxes.read(" ".join(words[2:]))
        except InvalidState:
            raise InvalidCommand(command) from None
        return [word, words[1], state]
    raise InvalidCommand(command)


def _are_of_a_power(words):
    """Whether these are a name, a rank, a verb of this rank, and for some verbs one more name."""
    if len(words) < 3 or not is_name(words[0]) or not is_rank(words[1]) or words[2] not in VERBS[words[1]]:
        return False
    if words[2] in NAMING_VERBS:
        return len(words) == 4 and is_name(words[3])
    return len(words) == 3
