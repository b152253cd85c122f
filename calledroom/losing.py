"""Who is lost: the hands that nothing lets on any more."""

from calledroom.books import come_to
from calledroom.steps import hands_in_rows


def lost(world, scene, most):
    """The rising tuple of the hands that never step nor come to be done from here on; None where over most scenes."""
    found = come_to(world, scene, most)
    if found is None:
        return None
    left = sorted(hands_in_rows(scene))
    # Who is in no row may step, or is done: so lost is just who stands in one whatever comes.
    for later, origin, stepper in found:
        held_up = hands_in_rows(later)
        left = [hand for hand in left if hand in held_up]
    return tuple(left)
