"""Rooms made of passes: each deed's rows stand in the programs of the hands that do it."""

from calledroom.doors import Door
from calledroom.errors import NoPasses
from calledroom.handwriting import hand_written
from calledroom.naming import Names
from calledroom.worlds import names_of
from calledroom.writings import Writing

# So that the numbers of rows have four figures at most, which is what texts have room for.
MOST_ROWS_COPIED = 8000


def of_passes(world):
    """A world without rooms that is alike."""
    rooms, passes, shared, hands = world
    if shared:
        raise NoPasses("open things are there")
    if any([sort == "turns" for room in rooms for bell, sort in room[3]]):
        raise NoPasses("a bell has turns")
    return made_of_passes(world, MOST_ROWS_COPIED) if rooms else world


def made_of_passes(world, most):
    """A world without rooms that is alike, with deeds' rows on the spot where a hand's program stays below most."""
    rooms, passes, shared, hands = world
    names = Names(words_kept(world))
    doors = {room[0]: Door(room, names) for room in rooms}
    deeds = {(room[0], deed): program for room in rooms for deed, program in room[4]}
    made = [hand_written(Writing(doors, deeds, names, len(hands) - 1), hand, most) for hand in hands]
    new_passes = [row for door in doors.values() for row in door.passes()]
    new_things = [row for door in doors.values() for row in door.shared_things()]
    return ((), tuple(sorted(list(passes) + new_passes)), tuple(sorted(new_things)), tuple(made))


def words_kept(world):
    """The words that no new pass and no new thing may be called by."""
    own = [word for things, program in world[3] for word in names_of(things)]
    return names_of(world[0]) + names_of(world[1]) + own + ["given"]
