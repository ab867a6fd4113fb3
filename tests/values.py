"""What several tests use: the document's example, recipes to start from, and values that are odd everywhere."""

TWO = (
    (("a", "b"), ("", "x")),
    (("join", (("thing", 0), ("thing", 1))), ("less", (("step", 0), ("thing", 0)))),
    (1,),
)

OFF = ((("hide", 0, 1), 2), (("hide", 1, 0), 1), (("pin", 1, 0), 3))

# Every operation, a thing that is read twice, one that no step reads, and made of three.
WIDE = (
    (("a", "ab", "cab", "zz"), ("", "ba"), ("q",)),
    (
        ("join", (("thing", 0), ("thing", 0))),
        ("sort", (("step", 0),)),
        ("turn", (("step", 1),)),
        ("first", (("thing", 1),)),
        ("rest", (("step", 2),)),
        ("less", (("step", 4), ("thing", 1))),
        ("same", (("step", 5), ("thing", 0))),
        ("pick", (("step", 3), ("step", 6), ("thing", 1))),
    ),
    (0, 5, 7),
)


# Four things with four texts each, and so 256 worlds; the outcome is "y" in the last one alone. Steps 4 to 7 are not
# made, and eight hidings there change nothing.
LARGE = (
    (("a", "b", "c", "d"),) * 4 + (("dddd",),),
    (
        ("join", (("thing", 0), ("thing", 1))),
        ("join", (("thing", 2), ("thing", 3))),
        ("join", (("step", 0), ("step", 1))),
        ("same", (("step", 2), ("thing", 4))),
        ("pick", (("thing", 0), ("thing", 1), ("thing", 2))),
        ("pick", (("thing", 1), ("thing", 2), ("thing", 3))),
        ("join", (("thing", 0), ("thing", 3))),
        ("join", (("step", 4), ("step", 5))),
    ),
    (3,),
)
IDLE = (
    (("hide", 4, 0), 1), (("hide", 4, 1), 2), (("hide", 4, 2), 1), (("hide", 5, 1), 1), (("hide", 5, 2), 3),
    (("hide", 5, 3), 1), (("hide", 6, 0), 9), (("hide", 6, 3), 1),
)


def nested(depth, kind):
    """Return an empty tuple or list in others, this many levels deep."""
    value = kind()
    for _ in range(depth - 1):
        value = kind([value])
    return value


def refused(test, error, call, *values):
    """Let a test fail unless a call with these values raises exactly this error."""
    with test.assertRaises(error, msg=repr(values)[:500]) as caught:
        call(*values)
    test.assertIs(type(caught.exception), error)


class Strange:
    """An object of a kind that no point of the document knows, and that cannot be compared."""

    __hash__ = None

    def __eq__(self, other):
        raise RuntimeError("not to be compared")

    def __lt__(self, other):
        raise RuntimeError("not to be compared")


def odd_values():
    """Return values of which none is right at any place of a recipe, of acts that are not empty, or of a world."""
    return [
        None, True, False, -1, 99, 10 ** 40, "A", "odd one", "abcde", b"a", b"thing", {}, {0: 0}, {"a": 1},
        [], [0], ["a"], [("thing", 0)], [("pin", 0, 0)], (None,), ((),), ([],), ({},), ("thing",), (0, 0, 0, 0, 0, 0),
        set(), {0}, frozenset(["a"]), object(), object, len, range(2), 1j, bytearray(b"a"),
        nested(30, tuple), nested(30, list), Strange(), (Strange(),),
    ]


def places(value, path=()):
    """Return the paths to all places in nested tuples, the whole first."""
    found = [path]
    if isinstance(value, tuple):
        for at, item in enumerate(value):
            found.extend(places(item, path + (at,)))
    return found


def item_at(value, path):
    """Return what stands at a place of nested tuples."""
    for at in path:
        value = value[at]
    return value


def put_at(value, path, new):
    """Return nested tuples with another value at one place."""
    if not path:
        return new
    at = path[0]
    return value[:at] + (put_at(value[at], path[1:], new),) + value[at + 1:]


def spoiled(value):
    """Return (path, value) for each place and odd value, and with a list in place of each tuple."""
    found = []
    for path in places(value):
        for odd in odd_values():
            found.append((path, put_at(value, path, odd)))
        item = item_at(value, path)
        if isinstance(item, tuple):
            found.append((path, put_at(value, path, list(item))))
            found.append((path, put_at(value, path, item + (None,))))
            if item:
                found.append((path, put_at(value, path, item[:-1] + ([item[-1]],))))
    return found


def not_recipes():
    """Return a few values that are no recipes, each for another reason."""
    return [
        None, 0, True, "a; sort t0; 0", (), [], {}, list(TWO), TWO[:2], TWO + ((),), ((),) + TWO[1:],
        (TWO[0], (), (0,)), (TWO[0], TWO[1], ()), (TWO[0], TWO[1], (2,)), (TWO[0], TWO[1], (True,)),
        (TWO[0], (("join", (("thing", 0), ("thing", 2))),), (0,)), nested(30, tuple), nested(30, list),
    ]
