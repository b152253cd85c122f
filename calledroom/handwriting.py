"""How a hand's program is written anew, with the rows of the deeds that it does in it."""

from calledroom.copies import Copy, asks_given, may_end_untold
from calledroom.doors import write_all, write_call, write_leave, write_wait
from calledroom.subdeeds import make_sent, write_outlets
from calledroom.sums import words_of
from calledroom.writings import tree_in, write_given

# No row of a deed makes more rows than these, what is done by it not counted.
ROWS_FOR_ONE = 12


def hand_written(writing, hand, most):
    """The hand without rooms; each deed's rows stand but once where else more than about most came of them all."""
    things, program = hand
    sheet = writing.sheet
    if size_of(program, writing.deeds, {}) > most:
        writing.subdeeds = {}
        writing.width = len(str(dos_in([program] + list(writing.deeds.values()))))
    write_rows(writing, Copy(program, None, None, None))
    if writing.subdeeds is not None:
        last = sheet.label()
        sheet.write(("go", last))
        write_subdeeds(writing)
        write_outlets(writing)
        sheet.mark(last)
    extras = [(word, 0) for word in writing.extras.values()]
    return (tuple(sorted(list(things) + extras)), sheet.resolved())


def size_of(program, deeds, known):
    """About how many rows come of a program with all deeds' rows on the spot; known are the sizes of deeds found."""
    many = ROWS_FOR_ONE * len(program)
    for row in program:
        if row[0] == "do":
            key = (row[2], row[3])
            if key not in known:
                known[key] = size_of(deeds[key], deeds, known)
            many += known[key]
    return many


def dos_in(programs):
    """How many rows of these programs do deeds."""
    return len([row for program in programs for row in program if row[0] == "do"])


def make_put(writing, copy, row):
    """Write a put."""
    tree = tree_in(writing, copy, row[2])
    writing.sheet.write(("put", copy.word_for(row[1]), tree))


def make_unless(writing, copy, row):
    """Write an unless."""
    tree = tree_in(writing, copy, row[1])
    writing.sheet.write(("unless", tree, copy.labels[row[2]]))


def make_go(writing, copy, row):
    """Write a go."""
    writing.sheet.write(("go", copy.labels[row[1]]))


def make_tell(writing, copy, row):
    """Write a tell, as a put to where it is to be told."""
    if copy.goal is not None:
        tree = tree_in(writing, copy, row[1])
        writing.sheet.write(("put", copy.goal, tree))


def make_wait(writing, copy, row):
    """Write a wait."""
    write_wait(writing.sheet, copy.door, row[1])


def make_call(writing, copy, row):
    """Write a call."""
    write_call(writing.sheet, copy.door, row[1])


def make_all(writing, copy, row):
    """Write a call of all."""
    write_all(writing.sheet, copy.door, row[1], writing.others)


def make_same(writing, copy, row):
    """Write a row of a hand's own program that no room has to do with."""
    writing.sheet.write(row)


MAKERS = {
    "put": make_put,
    "unless": make_unless,
    "go": make_go,
    "wait": make_wait,
    "call": make_call,
    "all": make_all,
    "tell": make_tell,
    "take": make_same,
    "give": make_same,
    "pass": make_same,
    "say": make_same,
}


def write_rows(writing, copy):
    """Write all rows of a copy's program."""
    sheet = writing.sheet
    copy.labels.extend([sheet.label() for at in range(len(copy.program) + 1)])
    for at, row in enumerate(copy.program):
        sheet.mark(copy.labels[at])
        if row[0] == "do":
            make_do(writing, copy, row)
        else:
            maker = MAKERS[row[0]]
            maker(writing, copy, row)
    sheet.mark(copy.labels[-1])


def make_do(writing, copy, row):
    """Write a do, with the deed's rows on the spot, or by going to where they stand."""
    if writing.subdeeds is None:
        make_copied(writing, copy, row)
    else:
        make_sent(writing, copy, row)


def make_copied(writing, copy, row):
    """Write a do with the deed's rows on the spot."""
    form, thing, room, deed, tree = row
    program, door = writing.deeds[(room, deed)], writing.doors[room]
    goal = None if thing is None else copy.word_for(thing)
    # Till the deed ends nothing changes what is given, but perhaps what is told: so its sum may stand for it.
    given = tree_in(writing, copy, tree)
    inner = Copy(program, door, given, goal)
    if asks_given(program) and (goal in words_of(given) or not inner.fits()):
        inner = Copy(program, door, write_given(writing, (room, deed), given), goal)
    if goal is not None and may_end_untold(program):
        writing.sheet.write(("put", goal, 0))
    write_deed(writing, inner)


def write_deed(writing, copy):
    """Write how a hand comes in, does a deed's rows, and leaves."""
    writing.sheet.write(("take", copy.door.name))
    write_rows(writing, copy)
    write_leave(writing.sheet, copy.door)


def write_subdeeds(writing):
    """Write each deed that is gone to, those to which others among them go, too."""
    many = 0
    while many < len(writing.subdeeds):
        key = list(writing.subdeeds)[many]
        many += 1
        program = writing.deeds[key]
        given = writing.extra("hand", key) if asks_given(program) else None
        writing.sheet.mark(writing.subdeeds[key].entry)
        write_deed(writing, Copy(program, writing.doors[key[0]], given, writing.extra("told", key)))
        writing.sheet.write(("go", writing.subdeeds[key].outlet))
