"""Rows: what each row of a program, and the end of a deed, makes of a scene."""

from calledroom.scenes import (
    NOBODY,
    OWN,
    at_row,
    last_frame,
    program_of,
    with_hand,
    with_last_frame,
    with_part,
    with_pass,
    with_room,
)
from calledroom.sums import HIGHEST, value_of
from calledroom.worlds import names_of


def place_of(roll, name):
    """The place of what is called so."""
    return names_of(roll).index(name)


def reckoned(world, scene, hand, tree):
    """The value of a sum in the hand's innermost frame."""
    frame = last_frame(scene, hand)
    room = frame[0]
    if room == OWN:
        things = dict(zip(names_of(world[2]), scene[2]))
        things.update(dict(zip(names_of(world[3][hand][0]), scene[3][hand][0])))
        return value_of(tree, things, {})
    things = dict(zip(names_of(world[0][room][2]), scene[0][room][0]))
    things["given"] = frame[3]
    waiting = {bell: len(line) for bell, line in zip(names_of(world[0][room][3]), scene[0][room][4])}
    return value_of(tree, things, waiting)


def put_thing(world, scene, hand, word, value):
    """The scene with a value put to a thing of the hand's innermost frame."""
    room = last_frame(scene, hand)[0]
    if room != OWN:
        place = place_of(world[0][room][2], word)
        values = with_part(scene[0][room][0], place, value)
        return with_room(scene, room, (values,) + scene[0][room][1:])
    if word in names_of(world[2]):
        shared = with_part(scene[2], place_of(world[2], word), value)
        return (scene[0], scene[1], shared, scene[3])
    values, frames = scene[3][hand]
    place = place_of(world[3][hand][0], word)
    return with_hand(scene, hand, with_part(values, place, value), frames)


def come_in(scene, room, hand):
    """The scene with the hand within the room where nobody is, else behind its row."""
    values, within, row, late, bells = scene[0][room]
    if within == NOBODY:
        return with_room(scene, room, (values, hand, row, late, bells))
    return with_room(scene, room, (values, within, row + (hand,), late, bells))


def leave(scene, room):
    """The scene with the next one within the room, late ones ahead of its row."""
    values, within, row, late, bells = scene[0][room]
    if late:
        return with_room(scene, room, (values, late[0], row, late[1:], bells))
    if row:
        return with_room(scene, room, (values, row[0], row[1:], late, bells))
    return with_room(scene, room, (values, NOBODY, row, late, bells))


def end_deed(world, scene, hand):
    """The scene with the hand's innermost deed at its end."""
    values, frames = scene[3][hand]
    room, deed, row, given, told = frames[-1]
    outside = with_hand(leave(scene, room), hand, values, frames[:-1])
    # A hand goes on behind the do by which it came only now, so that row is the one ahead.
    came_by = program_of(world, hand, frames[-2])[frames[-2][2] - 1]
    if came_by[1] is None:
        return outside
    return put_thing(world, outside, hand, came_by[1], told)


def by_put(world, scene, hand, row):
    """The scene behind a put."""
    return put_thing(world, scene, hand, row[1], reckoned(world, scene, hand, row[2]))


def by_unless(world, scene, hand, row):
    """The scene behind an unless."""
    if reckoned(world, scene, hand, row[1]) == 0:
        return at_row(scene, hand, row[2])
    return scene


def by_go(world, scene, hand, row):
    """The scene behind a go."""
    return at_row(scene, hand, row[1])


def by_do(world, scene, hand, row):
    """The scene behind a do."""
    room = place_of(world[0], row[2])
    deed = place_of(world[0][room][4], row[3])
    frame = (room, deed, 0, reckoned(world, scene, hand, row[4]), 0)
    values, frames = scene[3][hand]
    return come_in(with_hand(scene, hand, values, frames + (frame,)), room, hand)


def bell_of(world, scene, hand, word):
    """The number of the hand's innermost room, and the place there of the bell called so."""
    room = last_frame(scene, hand)[0]
    return (room, place_of(world[0][room][3], word))


def with_line(scene, room, bell, line):
    """The scene with this line at the bell of the room."""
    state = scene[0][room]
    return with_room(scene, room, state[:4] + (with_part(state[4], bell, line),))


def by_wait(world, scene, hand, row):
    """The scene behind a wait."""
    room, bell = bell_of(world, scene, hand, row[1])
    turn = 0
    if world[0][room][3][bell][1] == "turns":
        turn = reckoned(world, scene, hand, row[2])
    line = scene[0][room][4][bell]
    # Turns rise along the line, so those that aren't greater are the ones ahead.
    ahead = len([other for other, waiter in line if other <= turn])
    waiting = with_line(scene, room, bell, line[:ahead] + ((turn, hand),) + line[ahead:])
    return leave(waiting, room)


def by_call(world, scene, hand, row):
    """The scene behind a call."""
    room, bell = bell_of(world, scene, hand, row[1])
    line = scene[0][room][4][bell]
    if not line:
        return scene
    called = with_line(scene, room, bell, line[1:])
    if world[0][room][1] == "when free":
        return called
    values, within, queue, late, bells = called[0][room]
    return with_room(called, room, (values, line[0][1], queue, late + (hand,), bells))


def by_all(world, scene, hand, row):
    """The scene behind a call of all."""
    room, bell = bell_of(world, scene, hand, row[1])
    return with_line(scene, room, bell, ())


def by_tell(world, scene, hand, row):
    """The scene behind a tell."""
    told = reckoned(world, scene, hand, row[1])
    return with_last_frame(scene, hand, last_frame(scene, hand)[:4] + (told,))


def by_take(world, scene, hand, row):
    """The scene behind a take."""
    return taken(world, scene, hand, row[1])


def taken(world, scene, hand, name):
    """The scene with the pass one less, or the hand behind its row."""
    place = place_of(world[1], name)
    value, row = scene[1][place]
    if value > 0:
        return with_pass(scene, place, (value - 1, row))
    return with_pass(scene, place, (value, row + (hand,)))


def by_give(world, scene, hand, row):
    """The scene behind a give."""
    return given_back(world, scene, row[1])


def given_back(world, scene, name):
    """The scene with the first of the pass's row let on, or the pass one more."""
    place = place_of(world[1], name)
    value, row = scene[1][place]
    if row:
        return with_pass(scene, place, (value, row[1:]))
    return with_pass(scene, place, (min(value + 1, HIGHEST), row))


def by_pass(world, scene, hand, row):
    """The scene behind a pass row: a give, then a take."""
    return taken(world, given_back(world, scene, row[1]), hand, row[2])


def by_say(world, scene, hand, row):
    """The scene behind a say, which changes nothing but the row that is next."""
    return scene


DONE_BY = {
    "put": by_put,
    "unless": by_unless,
    "go": by_go,
    "do": by_do,
    "wait": by_wait,
    "call": by_call,
    "all": by_all,
    "tell": by_tell,
    "take": by_take,
    "give": by_give,
    "pass": by_pass,
    "say": by_say,
}


def row_done(world, scene, hand, row):
    """The scene behind a row of the hand's innermost frame, whose next row is told already."""
    deed = DONE_BY[row[0]]
    return deed(world, scene, hand, row)
