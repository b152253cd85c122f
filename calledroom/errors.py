"""The refusals."""


class RoomError(ValueError):
    """What stands above each refusal."""


class NoStep(RoomError):
    """A step that can't be; place is its number in the weaving."""

    def __init__(self, place):
        RoomError.__init__(self, f"step {place} can't be done")
        self.place = place
