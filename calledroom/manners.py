"""Manners: a world with one of its rooms of the other manner."""

from calledroom.errors import NoManner
from calledroom.scenes import with_part
from calledroom.worlds import has_all


def exchanged(world, room):
    """The world with this room, by number, of the other manner."""
    name, manner, things, bells, deeds = world[0][room]
    if has_all(world[0][room]):
        raise NoManner(f"a deed of {name} calls all")
    other = "when free" if manner == "at once" else "at once"
    return (with_part(world[0], room, (name, other, things, bells, deeds)),) + world[1:]
