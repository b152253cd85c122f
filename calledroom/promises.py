"""Promises: what a room's values keep whenever the room is left."""

from calledroom.books import come_to
from calledroom.scenes import begun, values_of
from calledroom.steps import may_step, step_of
from calledroom.stuckness import way_to
from calledroom.sums import value_of
from calledroom.worlds import names_of


def keeps(words, values, promise):
    """Whether these values of a room's things keep the promise."""
    return value_of(promise, dict(zip(words, values)), {}) != 0


def broken_way(world, room, promise, most):
    """The first weaving by size by which the promise is broken, or that it is kept, or too many scenes."""
    found = come_to(world, begun(world), most)
    if found is None:
        return ("open", None)
    things = world[0][room][2]
    words = names_of(things)
    if not keeps(words, values_of(things), promise):
        return ("way", ())
    # Scenes are found in the order of the first weavings by size, and of each but one hand can leave the room.
    for at, (scene, origin, stepper) in enumerate(found):
        values = values_left(world, scene, room)
        if values is not None and not keeps(words, values, promise):
            return ("way", way_to(found, at) + (scene[0][room][1],))
    return ("kept", None)


def values_left(world, scene, room):
    """The room's values behind a step that leaves it, or None where no hand's next step does."""
    hand = scene[0][room][1]
    if hand not in may_step(world, scene):
        return None
    reached = step_of(world, scene, hand)[0]
    # Who leaves a room is within no more: another one is, or nobody.
    return None if reached[0][room][1] == hand else reached[0][room][0]
