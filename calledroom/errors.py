"""The refusals."""


class RoomError(ValueError):
    """What stands above each refusal."""


class NoStep(RoomError):
    """A step that can't be; place is its number in the weaving."""

    def __init__(self, place):
        RoomError.__init__(self, f"step {place} can't be done")
        self.place = place


class NoText(RoomError):
    """A text that tells no world; row is the number of the row at fault."""

    def __init__(self, row):
        RoomError.__init__(self, f"row {row} can't be read")
        self.row = row


class NoManner(RoomError):
    """A room that can't be of the other manner."""


class NoPasses(RoomError):
    """A world that can't be made of passes."""


class NoRooms(RoomError):
    """A world that can't be made of rooms."""


class NoLine(RoomError):
    """A line that the desk doesn't know."""
