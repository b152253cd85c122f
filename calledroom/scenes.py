"""Scenes: how all rooms, passes, open things and hands of a world are at one time."""

from calledroom.sums import is_whole

OWN = -1
NOBODY = -1

# How many tuples stand within one another in a scene, down to the pairs at a bell.
SCENE_DEEP = 6


def is_plain(thing, deep):
    """Whether it is a whole number, or so many tuples deep at most and made of these alone."""
    if not isinstance(thing, tuple):
        return is_whole(thing)
    if deep < 1:
        return False
    # Ended by the first part that isn't: such a thing may be far wider than any scene.
    for part in thing:
        if not is_plain(part, deep - 1):
            return False
    return True


def values_of(things):
    """The values of a tuple of words with values."""
    return tuple([value for word, value in things])


def begun(world):
    """The scene in which nothing has been done yet."""
    rooms, passes, shared, hands = world
    own = (OWN, OWN, 0, 0, 0)
    return (
        tuple([begun_room(room) for room in rooms]),
        tuple([(value, ()) for name, value in passes]),
        values_of(shared),
        tuple([(values_of(things), (own,)) for things, program in hands]),
    )


def begun_room(room):
    """A room in which nobody is and to which nobody has come yet."""
    name, manner, things, bells, deeds = room
    return (values_of(things), NOBODY, (), (), tuple([() for bell in bells]))


def last_frame(scene, hand):
    """The innermost frame of a hand."""
    return scene[3][hand][1][-1]


def program_of(world, hand, frame):
    """The program of which this hand's frame is one."""
    room, deed = frame[0], frame[1]
    if room == OWN:
        return world[3][hand][1]
    return world[0][room][4][deed][1]


def with_part(parts, at, part):
    """The tuple with another part at this place."""
    return parts[:at] + (part,) + parts[at + 1:]


def with_room(scene, at, room):
    """The scene with this room so."""
    return (with_part(scene[0], at, room),) + scene[1:]


def with_pass(scene, at, turnstile):
    """The scene with this pass so."""
    return (scene[0], with_part(scene[1], at, turnstile)) + scene[2:]


def with_hand(scene, hand, values, frames):
    """The scene with this hand so."""
    return scene[:3] + (with_part(scene[3], hand, (values, frames)),)


def with_last_frame(scene, hand, frame):
    """The scene with another innermost frame of this hand."""
    values, frames = scene[3][hand]
    return with_hand(scene, hand, values, frames[:-1] + (frame,))


def at_row(scene, hand, row):
    """The scene with this row as the next one of the hand's innermost frame."""
    frame = last_frame(scene, hand)
    return with_last_frame(scene, hand, frame[:2] + (row,) + frame[3:])


def stands(world, scene, hand):
    """The one place in which a hand stands."""
    waits = place_in_a_row(world, scene, hand)
    if waits is not None:
        return waits
    frame = last_frame(scene, hand)
    room = frame[0]
    if room == OWN:
        return ("done",) if frame[2] == len(program_of(world, hand, frame)) else ("out",)
    name = world[0][room][0]
    return ("within", name) if scene[0][room][1] == hand else ("called", name)


def place_in_a_row(world, scene, hand):
    """The row of a pass or a room, or the bell, at which a hand stands, or None."""
    for (name, first), (value, row) in zip(world[1], scene[1]):
        if hand in row:
            return ("pass", name)
    for room, state in zip(world[0], scene[0]):
        if hand in state[2]:
            return ("row", room[0])
        if hand in state[3]:
            return ("late", room[0])
        for (bell, sort), line in zip(room[3], state[4]):
            if hand in hands_at(line):
                return ("bell", room[0], bell)
    return None


def hands_at(line):
    """The hands that wait at a bell, the one that is called next first."""
    return [hand for turn, hand in line]
