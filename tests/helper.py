"""What several test files need: odd things, worlds built in short, and worlds by number."""


class Odd:
    """A thing that can be held against nothing and that no dict takes as a key."""

    __hash__ = None

    def __eq__(self, other):
        raise RuntimeError("held against something")

    def __lt__(self, other):
        raise RuntimeError("held against something")

    def __len__(self):
        raise RuntimeError("asked for its length")

    def __bool__(self):
        raise RuntimeError("asked for its truth")


def nested(deep, wrap):
    """A thing so many deep, each level made by wrap."""
    thing = 0
    for level in range(deep - 1):
        thing = wrap(thing)
    return thing


def odd_things():
    """Things that are neither sums, nor worlds, nor parts of any."""
    return [
        None, True, False, -1, 10, 10 ** 30, "", "Word", "a b", "a1", "abcdefghi", "\u00e4", "\ud800", "\u0660",
        b"a", b"", [], {}, set(), frozenset(), (), [1], {"a": 1}, {1}, (1,), ("a",), ((),), ([],), [()], object,
        object(), len, Odd(), (Odd(),), [Odd()], (Odd(), Odd()), (Odd(), Odd(), Odd()), (Odd(), Odd(), Odd(), Odd()),
        range(3), 1j, ("plus", Odd(), Odd()), ("waits", Odd()), nested(60, lambda thing: (thing,)),
        nested(60, lambda thing: [thing]), nested(60, lambda thing: ("plus", thing, thing)),
        nested(60, lambda thing: ["plus", thing, 1]), nested(60, lambda thing: (thing, thing, thing, thing)),
        nested(60, lambda thing: ("not", thing)), nested(60, lambda thing: {"a": thing}),
    ]


def changed(thing, path, part):
    """The thing, made of tuples, with another part where the path of places leads."""
    if not path:
        return part
    at = path[0]
    return thing[:at] + (changed(thing[at], path[1:], part),) + thing[at + 1:]


def paths_of(thing, path=()):
    """All paths into a thing made of tuples, that of the whole first."""
    paths = [path]
    if isinstance(thing, tuple):
        for at, part in enumerate(thing):
            paths.extend(paths_of(part, path + (at,)))
    return paths


def part_at(thing, path):
    """The part of a thing to which the path of places leads."""
    for at in path:
        thing = thing[at]
    return thing


def room(name, deeds, manner="when free", things=(), bells=()):
    """A room, its deeds told by a dict."""
    return (name, manner, tuple(things), tuple(bells), tuple(sorted(deeds.items())))


def world(hands, rooms=(), passes=(), shared=()):
    """A world of hands that have no things of their own, each told by its program."""
    return (tuple(rooms), tuple(passes), tuple(shared), tuple([((), program) for program in hands]))


def own(row):
    """The frame of a hand's own program at this row."""
    return (-1, -1, row, 0, 0)


class Dice:
    """Numbers that look thrown but are the same each time."""

    def __init__(self, seed):
        self.at = seed * 7919 + 13
        # Seeds that are near one another throw alike at first.
        for time in range(20):
            self.throw(2)

    def throw(self, many):
        """A number below many."""
        self.at = (self.at * 1103515245 + 12345) % 2147483648
        return (self.at >> 12) % many

    def one_of(self, things):
        return things[self.throw(len(things))]


def thrown_sum(dice, words, bells):
    """A small sum of these words and bells."""
    form = dice.throw(7)
    if form < 2 or not words:
        return dice.throw(3)
    if form < 4:
        return dice.one_of(words)
    if form == 4 and bells:
        return ("waits", dice.one_of(bells))
    if form == 5:
        return ("not", dice.one_of(words))
    return (dice.one_of(("plus", "minus", "less", "same", "both")), dice.one_of(words), dice.throw(3))


def thrown_world(seed):
    """A small world by number: two rooms, the deeds of the first of which may do those of the second."""
    dice = Dice(seed)
    rooms = []
    for name in ("a", "b"):
        manner = dice.one_of(("at once", "when free"))
        deeds = {"d": thrown_deed(dice, name, WAITS), "e": thrown_deed(dice, name, CALLS[manner])}
        rooms.append(room(name, deeds, manner, (("t", dice.throw(2)),), (("x", "row"), ("y", "turns"))))
    hands = [((("m", dice.throw(2)),), thrown_hand(dice)) for hand in range(2 + dice.throw(2))]
    return (tuple(rooms), (("p", dice.throw(2)), ("q", 1)), (("o", 0),), tuple(hands))


WAITS = (("wait", "x", "given"), ("wait", "y", "given"), ("wait", "y", 1))
CALLS = {"at once": (("call", "x"), ("call", "y")), "when free": (("call", "x"), ("call", "y"), ("all", "y"))}


def thrown_deed(dice, name, bell_rows):
    """A deed of two or three rows, about half of them of these bell rows."""
    rows = []
    many = 2 + dice.throw(2)
    for at in range(many):
        tree = thrown_sum(dice, ("t", "given"), ("x", "y"))
        other = ("put", "t", ("not", "t"))
        if name == "a":
            other = ("do", dice.one_of((None, "t")), "b", dice.one_of(("d", "e")), tree)
        plain = (("put", "t", tree), ("unless", tree, many), ("tell", tree), other)
        rows.append(dice.one_of(bell_rows) if dice.throw(2) == 0 else dice.one_of(plain))
    return tuple(rows)


def thrown_hand(dice):
    """A hand's program of two or three rows."""
    rows = []
    many = 2 + dice.throw(2)
    for at in range(many):
        tree = thrown_sum(dice, ("m", "o"), ())
        passes = (dice.one_of(("p", "q")), dice.one_of(("p", "q")))
        do = ("do", dice.one_of((None, "m", "o")), dice.one_of(("a", "b")), dice.one_of(("d", "e")), tree)
        rows.append(dice.one_of((
            ("put", dice.one_of(("m", "o")), tree), ("unless", tree, many), ("take", passes[0]), ("give", passes[0]),
            ("pass",) + passes, ("say", tree), do, do, do, do, do, do,
        )))
    return tuple(rows)
