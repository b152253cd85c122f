"""Worlds written as texts."""

from calledroom.wording import sum_written

TEXT_OF = {"at once": "at-once", "when free": "when-free"}


def show_world(world):
    """The world's text."""
    rooms, passes, shared, hands = world
    rows = [f"pass {name} {value}" for name, value in passes]
    rows.extend([f"open {word} {value}" for word, value in shared])
    for room in rooms:
        rows.extend(room_shown(room))
    for things, program in hands:
        rows.extend(["hand"] + things_shown(things) + program_shown(program))
    return "\n".join(rows)


def room_shown(room):
    """The rows of a room's text."""
    name, manner, things, bells, deeds = room
    rows = [f"room {name} {TEXT_OF[manner]}"] + things_shown(things)
    rows.extend([f"bell {bell} {sort}" for bell, sort in bells])
    for deed, program in deeds:
        rows.extend([f"deed {deed}"] + program_shown(program))
    return rows


def things_shown(things):
    """The rows of things with their values."""
    return [f"thing {word} {value}" for word, value in things]


def program_shown(program):
    """The rows of a program's text."""
    return [row_shown(row) for row in program]


def row_shown(row):
    """A row of a program as it is written."""
    # In texts what goes on to the row's end stands last, so an unless tells its row ahead of its sum.
    parts = (row[2], row[1]) if row[0] == "unless" else row[1:]
    return " ".join([row[0]] + [part_shown(part) for part in parts])


def part_shown(part):
    """A part of a row, a sum, a word, a number or nothing, as it is written."""
    return "-" if part is None else sum_written(part)
