"""Looks at books and ways, whoever made them."""

from calledroom.scenes import SCENE_DEEP, begun, is_plain
from calledroom.steps import may_step, step_of
from calledroom.stuckness import is_stuck
from calledroom.sums import is_whole


def shows_book(world, thing):
    """Whether it is a tuple of just the scenes to which weavings lead, each come to from one ahead of it."""
    if not isinstance(thing, tuple):
        return False
    due = set()
    due.add(begun(world))
    seen = set()
    for scene in thing:
        # A truth or a list would be taken for a number or fail as a member, so the kind is asked first.
        if not is_plain(scene, SCENE_DEEP) or scene not in due or scene in seen:
            return False
        seen.add(scene)
        for hand in may_step(world, scene):
            due.add(step_of(world, scene, hand)[0])
    return len(seen) == len(due)


def shows_stuck(world, thing):
    """Whether it is a weaving that can be and leads to a stuck scene."""
    if not isinstance(thing, tuple):
        return False
    scene = begun(world)
    for hand in thing:
        if not is_whole(hand) or hand not in may_step(world, scene):
            return False
        scene = step_of(world, scene, hand)[0]
    return is_stuck(world, scene)


def shows_never(world, thing):
    """Whether it is a book without a stuck scene."""
    return shows_book(world, thing) and not any([is_stuck(world, scene) for scene in thing])
