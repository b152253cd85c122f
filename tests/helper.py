"""What several test files need: odd things, worlds built in short, and worlds by number."""


class Odd:
    """A thing that can be held against nothing and that no dict takes as a key."""

    __hash__ = None

    def __eq__(self, other):
        raise RuntimeError("held against something")

    def __lt__(self, other):
        raise RuntimeError("held against something")

    def __len__(self):
        raise RuntimeError("asked for its length")

    def __bool__(self):
        raise RuntimeError("asked for its truth")


def nested(deep, wrap):
    """A thing so many deep, each level made by wrap."""
    thing = 0
    for level in range(deep - 1):
        thing = wrap(thing)
    return thing


def odd_things():
    """Things that are neither sums, nor worlds, nor parts of any."""
    return [
        None, True, False, -1, 10, 10 ** 30, "", "Word", "a b", "a1", "abcdefghi", "\u00e4", "\ud800", "\u0660",
        b"a", b"", [], {}, set(), frozenset(), (), [1], {"a": 1}, {1}, (1,), ("a",), ((),), ([],), [()], object,
        object(), len, Odd(), (Odd(),), [Odd()], (Odd(), Odd()), (Odd(), Odd(), Odd()), (Odd(), Odd(), Odd(), Odd()),
        range(3), 1j, ("plus", Odd(), Odd()), ("waits", Odd()), nested(60, lambda thing: (thing,)),
        nested(60, lambda thing: [thing]), nested(60, lambda thing: ("plus", thing, thing)),
        nested(60, lambda thing: ["plus", thing, 1]), nested(60, lambda thing: (thing, thing, thing, thing)),
        nested(60, lambda thing: ("not", thing)), nested(60, lambda thing: {"a": thing}),
    ]


def changed(thing, path, part):
    """The thing, made of tuples, with another part where the path of places leads."""
    if not path:
        return part
    at = path[0]
    return thing[:at] + (changed(thing[at], path[1:], part),) + thing[at + 1:]


def paths_of(thing, path=()):
    """All paths into a thing made of tuples, that of the whole first."""
    paths = [path]
    if isinstance(thing, tuple):
        for at, part in enumerate(thing):
            paths.extend(paths_of(part, path + (at,)))
    return paths


def part_at(thing, path):
    """The part of a thing to which the path of places leads."""
    for at in path:
        thing = thing[at]
    return thing


def room(name, deeds, manner="when free", things=(), bells=()):
    """A room, its deeds told by a dict."""
    return (name, manner, tuple(things), tuple(bells), tuple(sorted(deeds.items())))


def world(hands, rooms=(), passes=(), shared=()):
    """A world of hands that have no things of their own, each told by its program."""
    return (tuple(rooms), tuple(passes), tuple(shared), tuple([((), program) for program in hands]))


def own(row):
    """The frame of a hand's own program at this row."""
    return (-1, -1, row, 0, 0)
