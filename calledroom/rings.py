"""Rings: hands each of which stands for a room within which the next one is."""

from calledroom.sums import is_whole


def holds(world, scene, hand):
    """The rising tuple of the names of the rooms within which the hand is."""
    return tuple([room[0] for room, state in zip(world[0], scene[0]) if state[1] == hand])


def rings(world, scene):
    """The rising tuple of all rings in a scene."""
    ahead = hands_ahead(world, scene)
    found = [ring_from(ahead, hand) for hand in range(len(scene[3]))]
    return tuple([ring for ring in found if ring is not None])


def hands_ahead(world, scene):
    """Of each hand in a room's row the room's name, and the hand within."""
    ahead = {}
    for room, (values, within, row, late, bells) in zip(world[0], scene[0]):
        for hand in row:
            ahead[hand] = (room[0], within)
    return ahead


def ring_from(ahead, first):
    """The ring of which this hand is the least, or None."""
    ring = []
    hand = first
    # A hand stands in one row at most, so only one way leads on, and a ring that is not this hand's is left in time.
    while hand in ahead and hand >= first and len(ring) < len(ahead):
        name, within = ahead[hand]
        ring.append((hand, name))
        if within == first:
            return tuple(ring)
        hand = within
    return None


def shows_ring(world, scene, thing):
    """Whether it is a ring in this scene, whatever it is."""
    if not isinstance(thing, tuple) or not all([is_hand_with_name(pair) for pair in thing]):
        return False
    return thing in rings(world, scene)


def is_hand_with_name(thing):
    """Whether it is a pair of a whole number and a text."""
    return isinstance(thing, tuple) and len(thing) == 2 and is_whole(thing[0]) and isinstance(thing[1], str)
