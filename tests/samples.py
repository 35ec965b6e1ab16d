"""Values of many kinds, none of which is a name, an integer or a list of statements by chance."""


class AlwaysEqual:
    """Says of each value that it is equal: a program that only asks == is taken in by it."""

    def __eq__(self, other):
        return True

    __hash__ = None


class NeverEqual:
    """Says of each value, itself included, that it is not equal."""

    def __eq__(self, other):
        return False

    __hash__ = None


def odd_values():
    """Values that are no string, no int, no list, no tuple and no dict."""
    return [
        None, b"", b"a", b"busy=0 paid=0", set(), {1}, frozenset(), frozenset(["a"]), range(2), iter([]),
        object(), object, int, str, len, lambda: 0, Ellipsis, NotImplemented, ValueError("a"), 1j,
        bytearray(b"a"), AlwaysEqual(), NeverEqual(),
    ]


def containers():
    """Lists, tuples and dicts that hold nothing useful."""
    return [[], (), {}, ["a"], ("a",), {"a": "a"}, [[]], ((),), [0], (0,), {0: 0}, [None], (None,), {None: None}]


def no_integers():
    """Values of all kinds but ints that are no bools."""
    return [True, False, "", "0", "1", "a", *odd_values(), *containers()]


def no_strings():
    """Values of all kinds but strings."""
    return [0, 1, -1, 97, True, False, *odd_values(), *containers()]


WRONG_NAMES = [
    "", " ", "A", "Ab", "aB", "abcD", "1", "1a", "0", "_", "a_", "_a", "a b", " a", "a ", "a\n", "\na", "a-b", "a.b",
    "a=b", "abcdefghi", "abcdefgh1", "a" * 9, "a" * 400, "\u00e9", "a\u00e9", "\u00df", "a\u0661", "a\u00b2",
    "\u0430", "a\u0000", "a/", "a:", "a`", "a{", "a@", "`", "{",
]

RIGHT_NAMES = [
    "a", "z", "m", "busy", "paid", "a0", "a9", "z99", "abcdefgh", "ijklmnop", "qrstuvwx", "yz012345", "b6789876",
]
