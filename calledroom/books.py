"""Books: all scenes to which weavings lead."""

from calledroom.scenes import begun
from calledroom.steps import may_step, step_of


def book(world, most):
    """All scenes in the order in which they are come to, or that there are more than most."""
    found = come_to(world, begun(world), most)
    if found is None:
        return ("open", None)
    return ("all", tuple([scene for scene, origin, hand in found]))


def come_to(world, start, most):
    """All scenes that come of one, each with the place of the one ahead and the hand; None where over most."""
    seen = set()
    seen.add(start)
    found = [(start, -1, -1)]
    at = 0
    while at < len(found) and len(found) <= most:
        scene = found[at][0]
        for hand in may_step(world, scene):
            reached, event = step_of(world, scene, hand)
            if reached not in seen:
                seen.add(reached)
                found.append((reached, at, hand))
        at += 1
    return found if len(found) <= most else None
