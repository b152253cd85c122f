"""Worlds that say much, and what [19] and [20] tell of them, word by word."""

from calledroom.scenes import begun, stands
from calledroom.steps import may_step, stepped
from tests.helper import Dice, room, thrown_sum


def thrown_talk(seed):
    """A small world by number with a room, a pass and an open thing, in which much is said."""
    dice = Dice(seed)
    manner = dice.one_of(("at once", "when free"))
    deeds = {
        "d": (("wait", "x", 0), ("put", "t", ("plus", "t", 1)), ("tell", "t")),
        "e": (("put", "t", dice.throw(3)), ("call", "x"), ("tell", dice.one_of(("t", ("waits", "x"))))),
    }
    rooms = (room("r", deeds, manner, (("t", 0),), (("x", "row"),)),)
    hands = tuple([((("m", 0),), thrown_program(dice)) for hand in range(1 + dice.throw(2))])
    return (rooms, (("p", dice.throw(2)),), (("o", dice.throw(2)),), hands)


def thrown_program(dice):
    many = 2 + dice.throw(3)
    return tuple([thrown_row(dice, many) for row in range(many)])


def thrown_row(dice, many):
    """A row of a hand's program of so many rows."""
    tree = thrown_sum(dice, ("m", "o"), ())
    say = ("say", dice.one_of((0, 1, "m", "o")))
    rows = (
        say, say, say, say, ("put", "o", tree), ("put", "m", tree), ("unless", tree, dice.throw(many + 1)), ("take", "p"),
        ("give", "p"), ("do", dice.one_of((None, "m")), "r", dice.one_of(("d", "e")), 0), ("go", many),
    )
    return dice.one_of(rows)


def thrown_pair(seed):
    """Two such worlds, the other one with a row otherwise, a silent one more, a value or the manner otherwise."""
    dice = Dice(seed + 100000)
    one = thrown_talk(seed)
    rooms, passes, shared, hands = one
    form = dice.throw(7)
    if form == 0:
        return one, (rooms, (("p", 1 - passes[0][1]),), shared, hands)
    if form == 1:
        name, manner, things, bells, deeds = rooms[0]
        manner = "at once" if manner == "when free" else "when free"
        return one, (((name, manner, things, bells, deeds),), passes, shared, hands)
    at = dice.throw(len(hands))
    things, program = hands[at]
    if form == 2:
        program = program + (("put", "m", "m"),)
    elif form == 3:
        program = program + (dice.one_of((("say", 1), ("take", "p"))),)
    else:
        place = dice.throw(len(program))
        program = program[:place] + (thrown_row(dice, len(program)),) + program[place + 1:]
    return one, (rooms, passes, shared, hands[:at] + ((things, program),) + hands[at + 1:])


def closed(one, scenes):
    """The least crowd that has these scenes, by [19]'s words."""
    crowd = list(scenes)
    for scene in crowd:
        for hand in may_step(one, scene):
            reached, event = stepped(one, scene, hand)
            if event is None and reached not in crowd:
                crowd.append(reached)
    return tuple(sorted(set(crowd)))


def marks(one, crowd):
    """The marks of a crowd, by [19]'s words."""
    events, done, stuck = set(), False, False
    for scene in crowd:
        places = [stands(one, scene, hand)[0] for hand in range(len(one[3]))]
        events |= {stepped(one, scene, hand)[1] for hand in may_step(one, scene)} - {None}
        done = done or set(places) == {"done"}
        stuck = stuck or (set(places) != {"done"} and not set(places) & {"out", "within", "called"})
    return (tuple(sorted(events)), done, stuck)


def behind(one, crowd, event):
    """The crowd behind an event, by [19]'s words; () where no step has it."""
    steps = [stepped(one, scene, hand) for scene in crowd for hand in may_step(one, scene)]
    return closed(one, [reached for reached, label in steps if label == event])


def pairs_by_rows(one, other, longest):
    """All rows of at most so many events that lead to two crowds, by size, each with its pair of crowds."""
    first = (closed(one, [begun(one)]), closed(other, [begun(other)]))
    ahead = [((), first)]
    rows = list(ahead)
    for size in range(longest):
        found = []
        for row, (mine, yours) in ahead:
            for event in sorted(set(marks(one, mine)[0]) & set(marks(other, yours)[0])):
                found.append((row + (event,), (behind(one, mine, event), behind(other, yours, event))))
        rows += found
        ahead = found
    return rows


def unlike(mine, yours):
    """All things in which marks are unlike, in the order in which they are told."""
    events = [event for event in sorted(set(mine[0]) | set(yours[0])) if (event in mine[0]) != (event in yours[0])]
    return events + ["done"] * (mine[1] != yours[1]) + ["stuck"] * (mine[2] != yours[2])
