"""Worlds read from texts."""

from calledroom.building import Building
from calledroom.errors import NoText
from calledroom.textrows import row_read
from calledroom.worlds import is_world

# What may stand behind what. Passes may begin a text; things leave their room or hand as it is.
FOLLOWERS = {
    "pass": ("pass", "open", "room", "hand"),
    "open": ("open", "room", "hand"),
    "room": ("thing", "bell", "deed", "room", "hand"),
    "bell": ("bell", "deed", "room", "hand"),
    "deed": ("row", "deed", "room", "hand"),
    "hand": ("thing", "row", "hand"),
    "own": ("row", "hand"),
}


def read_world(text):
    """The world that a text tells, whatever is handed in."""
    if not isinstance(text, str):
        raise NoText(0)
    rows = text.split("\n")
    building = Building()
    place = "pass"
    for number, row in enumerate(rows):
        sort, parts = row_read(row)
        if sort not in FOLLOWERS[place]:
            raise NoText(number)
        place = place_behind(place, sort)
        building.take_in(sort, parts)
    world = building.finished()
    if not is_world(world):
        raise NoText(len(rows))
    return world


def place_behind(place, sort):
    """Where a text is behind a row of this sort."""
    if sort == "thing":
        return place
    if sort == "row":
        return "own" if place in ("hand", "own") else "deed"
    return sort
