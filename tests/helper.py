"""What several test files need: odd things, worlds built in short and by number, and the forms of told worlds."""

from calledroom.sums import bells_of, is_sum, words_of


class Odd:
    """A thing that can be held against nothing and that no dict takes as a key."""

    __hash__ = None

    def __eq__(self, other):
        raise RuntimeError("held against something")

    def __lt__(self, other):
        raise RuntimeError("held against something")

    def __len__(self):
        raise RuntimeError("asked for its length")

    def __bool__(self):
        raise RuntimeError("asked for its truth")


def nested(deep, wrap):
    """A thing so many deep, each level made by wrap."""
    thing = 0
    for level in range(deep - 1):
        thing = wrap(thing)
    return thing


def odd_things():
    """Things that are neither sums, nor worlds, nor parts of any."""
    return [
        None, True, False, -1, 10, 10 ** 30, "", "Word", "a b", "a1", "abcdefghi", "\u00e4", "\ud800", "\u0660",
        b"a", b"", [], {}, set(), frozenset(), (), [1], {"a": 1}, {1}, (1,), ("a",), ((),), ([],), [()], object,
        object(), len, Odd(), (Odd(),), [Odd()], (Odd(), Odd()), (Odd(), Odd(), Odd()), (Odd(), Odd(), Odd(), Odd()),
        range(3), 1j, ("plus", Odd(), Odd()), ("waits", Odd()), nested(60, lambda thing: (thing,)),
        nested(60, lambda thing: [thing]), nested(60, lambda thing: ("plus", thing, thing)),
        nested(60, lambda thing: ["plus", thing, 1]), nested(60, lambda thing: (thing, thing, thing, thing)),
        nested(60, lambda thing: ("not", thing)), nested(60, lambda thing: {"a": thing}),
    ]


def changed(thing, path, part):
    """The thing, made of tuples, with another part where the path of places leads."""
    if not path:
        return part
    at = path[0]
    return thing[:at] + (changed(thing[at], path[1:], part),) + thing[at + 1:]


def paths_of(thing, path=()):
    """All paths into a thing made of tuples, that of the whole first."""
    paths = [path]
    if isinstance(thing, tuple):
        for at, part in enumerate(thing):
            paths.extend(paths_of(part, path + (at,)))
    return paths


def part_at(thing, path):
    """The part of a thing to which the path of places leads."""
    for at in path:
        thing = thing[at]
    return thing


def room(name, deeds, manner="when free", things=(), bells=()):
    """A room, its deeds told by a dict."""
    return (name, manner, tuple(things), tuple(bells), tuple(sorted(deeds.items())))


def world(hands, rooms=(), passes=(), shared=()):
    """A world of hands that have no things of their own, each told by its program."""
    return (tuple(rooms), tuple(passes), tuple(shared), tuple([((), program) for program in hands]))


def own(row):
    """The frame of a hand's own program at this row."""
    return (-1, -1, row, 0, 0)


class Dice:
    """Numbers that look thrown but are the same each time."""

    def __init__(self, seed):
        self.at = seed * 7919 + 13
        # Seeds that are near one another throw alike at first.
        for time in range(20):
            self.throw(2)

    def throw(self, many):
        """A number below many."""
        self.at = (self.at * 1103515245 + 12345) % 2147483648
        return (self.at >> 12) % many

    def one_of(self, things):
        return things[self.throw(len(things))]


def thrown_sum(dice, words, bells):
    """A small sum of these words and bells."""
    form = dice.throw(7)
    if form < 2 or not words:
        return dice.throw(3)
    if form < 4:
        return dice.one_of(words)
    if form == 4 and bells:
        return ("waits", dice.one_of(bells))
    if form == 5:
        return ("not", dice.one_of(words))
    return (dice.one_of(("plus", "minus", "less", "same", "both")), dice.one_of(words), dice.throw(3))


def thrown_world(seed):
    """A small world by number: two rooms, the deeds of the first of which may do those of the second."""
    dice = Dice(seed)
    rooms = []
    for name in ("a", "b"):
        manner = dice.one_of(("at once", "when free"))
        deeds = {"d": thrown_deed(dice, name, WAITS), "e": thrown_deed(dice, name, CALLS[manner])}
        rooms.append(room(name, deeds, manner, (("t", dice.throw(2)),), (("x", "row"), ("y", "turns"))))
    hands = [((("m", dice.throw(2)),), thrown_hand(dice)) for hand in range(2 + dice.throw(2))]
    return (tuple(rooms), (("p", dice.throw(2)), ("q", 1)), (("o", 0),), tuple(hands))


WAITS = (("wait", "x", "given"), ("wait", "y", "given"), ("wait", "y", 1))
CALLS = {"at once": (("call", "x"), ("call", "y")), "when free": (("call", "x"), ("call", "y"), ("all", "y"))}


def thrown_deed(dice, name, bell_rows):
    """A deed of two or three rows, about half of them of these bell rows."""
    rows = []
    many = 2 + dice.throw(2)
    for at in range(many):
        tree = thrown_sum(dice, ("t", "given"), ("x", "y"))
        other = ("put", "t", ("not", "t"))
        if name == "a":
            other = ("do", dice.one_of((None, "t")), "b", dice.one_of(("d", "e")), tree)
        plain = (("put", "t", tree), ("unless", tree, many), ("tell", tree), other)
        rows.append(dice.one_of(bell_rows) if dice.throw(2) == 0 else dice.one_of(plain))
    return tuple(rows)


def thrown_hand(dice):
    """A hand's program of two or three rows."""
    rows = []
    many = 2 + dice.throw(2)
    for at in range(many):
        tree = thrown_sum(dice, ("m", "o"), ())
        passes = (dice.one_of(("p", "q")), dice.one_of(("p", "q")))
        do = ("do", dice.one_of((None, "m", "o")), dice.one_of(("a", "b")), dice.one_of(("d", "e")), tree)
        rows.append(dice.one_of((
            ("put", dice.one_of(("m", "o")), tree), ("unless", tree, many), ("take", passes[0]), ("give", passes[0]),
            ("pass",) + passes, ("say", tree), do, do, do, do, do, do,
        )))
    return tuple(rows)


LETTERS = set("abcdefghijklmnopqrstuvwxyz")
VALUES = range(10)


def keeps_forms(one):
    """Whether it has the forms of [4] to [7], whatever its size, by the document's words."""
    rooms, passes, shared, hands = one
    rolls = [rooms, passes, shared] + [part for place in rooms for part in place[2:]] + [things for things, program in hands]
    for roll in rolls:
        names = [row[0] for row in roll]
        if not isinstance(roll, tuple) or names != sorted(set(names)):
            return False
        if any([not 1 <= len(name) <= 8 or set(name) - LETTERS for name in names]):
            return False
    thing_rolls = [shared] + [place[2] for place in rooms] + [things for things, program in hands]
    pairs = [pair for roll in thing_rolls + [passes] for pair in roll]
    if any([len(pair) != 2 or value_kind(pair[1]) not in VALUES for pair in pairs]):
        return False
    if "given" in [word for roll in thing_rolls for word, value in roll]:
        return False
    if {place[0] for place in rooms} & {name for name, value in passes}:
        return False
    return all([room_keeps_forms(one, place) for place in rooms]) and all([hand_keeps_forms(one, hand) for hand in hands])


def value_kind(value):
    """The value, or -1 for what is no whole number."""
    return value if value.__class__ is int else -1


def room_keeps_forms(one, place):
    name, manner, things, bells, deeds = place
    words = [word for word, value in things]
    if manner not in ("at once", "when free") or not deeds or any([sort not in ("row", "turns") for bell, sort in bells]):
        return False
    reach = (words, words + ["given"], [bell for bell, sort in bells], ())
    forms = "put unless go do wait call tell".split() + ["all"] * (manner == "when free")
    return all([program_keeps_forms(one, program, forms, reach) for deed, program in deeds])


def hand_keeps_forms(one, hand):
    words = [word for word, value in hand[0]]
    shared = [word for word, value in one[2]]
    if set(words) & set(shared):
        return False
    reach = (words + shared, words + shared, (), [name for name, value in one[1]])
    return program_keeps_forms(one, hand[1], "put unless go do take give pass say".split(), reach)


def program_keeps_forms(one, program, forms, reach):
    """Whether a program has rows of these forms alone, that name what is in reach: things, words, bells, passes."""
    things, words, bells, passes = reach
    deeds = [(place[0], deed) for place in one[0] for deed, rows in place[4]]
    for row in program:
        if row[0] not in forms or not isinstance(row, tuple):
            return False
        rests = {
            "put": lambda x, e: x in things and fits(e, words, bells),
            "unless": lambda e, k: fits(e, words, bells) and k in range(len(program) + 1),
            "go": lambda k: k in range(len(program) + 1),
            "do": lambda x, r, d, e: (x is None or x in things) and (r, d) in deeds and fits(e, words, bells),
            "wait": lambda b, e: b in bells and fits(e, words, bells),
            "call": lambda b: b in bells,
            "all": lambda b: b in bells,
            "tell": lambda e: fits(e, words, bells),
            "take": lambda p: p in passes,
            "give": lambda p: p in passes,
            "pass": lambda p, q: p in passes and q in passes,
            "say": lambda e: fits(e, words, bells),
        }
        if not rests[row[0]](*row[1:]):
            return False
    return isinstance(program, tuple) and len(program) > 0


def fits(tree, words, bells):
    return is_sum(tree) and set(words_of(tree)) <= set(words) and set(bells_of(tree)) <= set(bells)


def deep_sum(dice, words, bells, deep):
    """A sum at most so deep of these words and bells."""
    form = dice.throw(8)
    if form < 2 or deep == 1:
        return dice.one_of((dice.throw(4), dice.one_of(words)))
    if form == 2 and bells:
        return ("waits", dice.one_of(bells))
    if form == 3:
        return ("not", deep_sum(dice, words, bells, deep - 1))
    sort = dice.one_of(("plus", "minus", "less", "same", "both"))
    return (sort, deep_sum(dice, words, bells, deep - 1), deep_sum(dice, words, bells, deep - 1))


def roomy_world(seed, many=None, deep=3):
    """A world by number without open things and turns: one to three rooms that do deeds of those behind them."""
    dice = Dice(seed + 5000)
    names = ("a", "b", "c")[:1 + dice.throw(3)]
    rooms = [roomy_room(dice, names, at, deep) for at in range(len(names))]
    hands = []
    for hand in range(many or 1 + dice.throw(3)):
        rows = [roomy_hand_row(dice, names, deep) for row in range(1 + dice.throw(4))]
        hands.append(((("m", dice.throw(3)), ("n", 0)), with_places(dice, rows)))
    return (tuple(rooms), (("p", dice.throw(2)), ("q", 1)), (), tuple(hands))


def roomy_room(dice, names, at, deep):
    manner = dice.one_of(("at once", "when free"))
    bells = (("x", "row"), ("y", "row"))[:dice.throw(3)]
    things = (("t", dice.throw(3)), ("u", 1))[:dice.throw(3)]
    deeds = {}
    for deed in ("d", "e"):
        rows = [roomy_deed_row(dice, (names, at, deed), (manner, things, bells), deep) for row in range(1 + dice.throw(4))]
        deeds[deed] = with_places(dice, rows)
    return room(names[at], deeds, manner, things, bells)


def roomy_deed_row(dice, where, parts, deep):
    names, at, deed = where
    manner, things, bells = parts
    words = [word for word, value in things]
    rung = [bell for bell, sort in bells]
    tree = deep_sum(dice, words + ["given"], rung, deep)
    rows = [("unless", tree), ("tell", tree), ("go",) if dice.throw(4) == 0 else ("tell", tree)]
    if deed == "d" and dice.throw(8) == 0:
        return ("do", None, names[at], "e", 0)
    if words:
        rows += [("put", dice.one_of(words), tree)] * 2
    if rung:
        rows += [("wait", dice.one_of(rung), tree)] * 3 + [("call", dice.one_of(rung))] * 4
        rows += [("all", dice.one_of(rung))] * 2 * (manner == "when free")
    if at + 1 < len(names):
        rows += [("do", dice.one_of([None] + words), names[at + 1], dice.one_of(("d", "e")), tree)] * 3
    return dice.one_of(rows)


def roomy_hand_row(dice, names, deep):
    tree = deep_sum(dice, ("m", "n"), (), deep)
    do = ("do", dice.one_of((None, "m", "n")), dice.one_of(names), dice.one_of(("d", "e")), tree)
    return dice.one_of((
        ("say", tree), ("say", dice.one_of(("m", "n"))), do, do, do, do, ("put", "m", tree), ("unless", tree),
        ("take", "p"), ("give", "p"), ("pass", "p", "q"),
    ))


def with_places(dice, rows):
    """The rows with a row's number behind each unless and go."""
    return tuple([row + (dice.throw(len(rows) + 1),) if row[0] in ("unless", "go") else row for row in rows])
