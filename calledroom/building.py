"""Worlds as they are built up, row by row of a text."""


class Building:
    """The parts of a world of which rows have told so far."""

    def __init__(self):
        self.pass_rows = []
        self.open_rows = []
        self.room_parts = []
        self.hand_parts = []

    def take_in(self, sort, parts):
        """Take one row more, where it may stand."""
        if sort == "pass":
            self.pass_rows.append(parts)
        elif sort == "open":
            self.open_rows.append(parts)
        elif sort == "room":
            self.room_parts.append((parts, [], [], []))
        elif sort == "bell":
            self.room_parts[-1][2].append(parts)
        elif sort == "deed":
            self.room_parts[-1][3].append((parts[0], []))
        elif sort == "hand":
            self.hand_parts.append(([], []))
        elif sort == "thing":
            self.things_at_last().append(parts)
        else:
            self.program_at_last().append(parts)

    def things_at_last(self):
        """The things of the hand, or the room, that the text is at."""
        return self.hand_parts[-1][0] if self.hand_parts else self.room_parts[-1][1]

    def program_at_last(self):
        """The program that the text is at."""
        return self.hand_parts[-1][1] if self.hand_parts else self.room_parts[-1][3][-1][1]

    def finished(self):
        """All that was told, formed as a world."""
        rooms = [room_of(parts) for parts in self.room_parts]
        hands = [(tuple(things), tuple(program)) for things, program in self.hand_parts]
        return (tuple(rooms), tuple(self.pass_rows), tuple(self.open_rows), tuple(hands))


def room_of(parts):
    """The room of which these parts were told."""
    (name, manner), things, bells, deeds = parts
    return (name, manner, tuple(things), tuple(bells), tuple([(deed, tuple(rows)) for deed, rows in deeds]))
