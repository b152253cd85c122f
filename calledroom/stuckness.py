"""Where nobody can go on."""

from calledroom.books import come_to
from calledroom.scenes import begun, stands
from calledroom.steps import may_step


def is_done(world, scene):
    """Whether all hands are done."""
    return all([stands(world, scene, hand) == ("done",) for hand in range(len(scene[3]))])


def is_stuck(world, scene):
    """Whether no hand may step and some isn't done."""
    return not may_step(world, scene) and not is_done(world, scene)


def stuck_way(world, most):
    """The first weaving by size that leads to a stuck scene, or that there is none, or too many scenes."""
    found = come_to(world, begun(world), most)
    if found is None:
        return ("open", None)
    # Scenes are found in the order of the first weavings by size that lead to them.
    for at, (scene, origin, hand) in enumerate(found):
        if is_stuck(world, scene):
            return ("way", way_to(found, at))
    return ("never", None)


def way_to(found, at):
    """The weaving by which the scene at this place was found."""
    hands = []
    while found[at][1] >= 0:
        hands.append(found[at][2])
        at = found[at][1]
    return tuple(reversed(hands))
