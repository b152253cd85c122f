"""Passes made of rooms: each pass is a room with a deed to take and one to give."""

from calledroom.errors import NoRooms

# Of a room "at once", so that whoever is called takes what was given for it ahead of all that stand in the row.
TAKE = (("unless", ("not", "left"), 2), ("wait", "some", 0), ("put", "left", ("minus", "left", 1)))
GIVE = (("put", "left", ("plus", "left", 1)), ("call", "some"))


def of_rooms(world):
    """A world without passes that is alike."""
    rooms, passes, shared, hands = world
    if any([row[0] == "pass" for things, program in hands for row in program]):
        raise NoRooms("a program has a pass row")
    made = [room_for(name, value) for name, value in passes]
    return (
        tuple(sorted(list(rooms) + made)),
        (),
        shared,
        tuple([(things, tuple([row_for(row) for row in program])) for things, program in hands]),
    )


def room_for(name, value):
    """The room of a pass, called as the pass is: no other room is called so."""
    return (name, "at once", (("left", value),), (("some", "row"),), (("give", GIVE), ("take", TAKE)))


def row_for(row):
    """The row of a hand's program, one for one, so that all numbers of rows stay as they are."""
    if row[0] in ("take", "give"):
        return ("do", None, row[1], row[0], 0)
    return row
