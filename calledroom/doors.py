"""Doors: the passes and open things that a room is made of, and the rows by which hands come to use them."""

from calledroom.scenes import values_of


class Door:
    """A room's names among passes and open things.

    The pass called as the room is 1 where nobody is within, and who stands in its row stands in the room's. All other
    passes stay 0: who waits at a bell, or is late, stands in a row of theirs, and a thing counts how many do.
    """

    def __init__(self, room, names):
        name, manner, things, bells, deeds = room
        self.name = name
        self.is_free = manner == "when free"
        self.things = {word: names.fresh("kept") for word, value in things}
        self.first_values = values_of(things)
        self.bells = {bell: names.fresh("bell") for bell, sort in bells}
        self.counts = {bell: names.fresh("many") for bell, sort in bells}
        self.late = None
        self.owed = None
        # Nobody is ever late where nobody calls.
        if not self.is_free and any([row[0] == "call" for deed, program in deeds for row in program]):
            self.late = names.fresh("late")
            self.owed = names.fresh("owed")

    def passes(self):
        """All passes of the room, with their values at first."""
        closed = list(self.bells.values()) + ([] if self.late is None else [self.late])
        return [(self.name, 1)] + [(name, 0) for name in closed]

    def shared_things(self):
        """All open things of the room, with their values at first."""
        counts = list(self.counts.values()) + ([] if self.owed is None else [self.owed])
        return list(zip(self.things.values(), self.first_values)) + [(word, 0) for word in counts]

    def waits(self):
        """For each bell the sum that tells whether somebody waits there."""
        return {bell: ("less", 0, word) for bell, word in self.counts.items()}


def write_leave(sheet, door):
    """Write how a hand leaves the room at a deed's end."""
    write_handing_on(sheet, door, ("give",), ())


def write_wait(sheet, door, bell):
    """Write how a hand waits at a bell, which leaves the room, and goes on behind."""
    count = door.counts[bell]
    sheet.write(("put", count, ("plus", count, 1)))
    write_handing_on(sheet, door, ("pass",), (door.bells[bell],))
    # One that is called at once is handed the room; else it comes in again like one that comes anew.
    if door.is_free:
        sheet.write(("take", door.name))


def write_handing_on(sheet, door, ahead, behind):
    """Write how the room is handed on, late ones first, by a row with these parts ahead and behind the pass's name."""
    if door.late is None:
        sheet.write(ahead + (door.name,) + behind)
        return
    nobody, onward = sheet.label(), sheet.label()
    sheet.write(("unless", door.owed, nobody))
    sheet.write(("put", door.owed, ("minus", door.owed, 1)))
    sheet.write(ahead + (door.late,) + behind)
    sheet.write(("go", onward))
    sheet.mark(nobody)
    sheet.write(ahead + (door.name,) + behind)
    sheet.mark(onward)


def write_call(sheet, door, bell):
    """Write how a hand calls the first one that waits at a bell."""
    count = door.counts[bell]
    onward = sheet.label()
    sheet.write(("unless", count, onward))
    sheet.write(("put", count, ("minus", count, 1)))
    if door.is_free:
        sheet.write(("give", door.bells[bell]))
    else:
        sheet.write(("put", door.owed, ("plus", door.owed, 1)))
        sheet.write(("pass", door.bells[bell], door.late))
    sheet.mark(onward)


def write_all(sheet, door, bell, most):
    """Write how a hand calls all, at most so many, that wait at a bell."""
    count = door.counts[bell]
    counted, onward = sheet.label(), sheet.label()
    for number in range(most):
        sheet.write(("unless", ("less", number, count), counted if number > 0 else onward))
        sheet.write(("give", door.bells[bell]))
    sheet.mark(counted)
    sheet.write(("put", count, 0))
    sheet.mark(onward)
