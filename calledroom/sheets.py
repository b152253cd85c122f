"""Sheets: programs as they are written, with labels for rows whose numbers aren't known yet."""


class Sheet:
    """Rows in which unless and go name labels, and the numbers of the rows that labels were set at."""

    def __init__(self):
        self.lines = []
        self.spots = []

    def label(self):
        """A new label, to be set later."""
        self.spots.append(0)
        return len(self.spots) - 1

    def mark(self, label):
        """Set the label at the row that is written next."""
        self.spots[label] = len(self.lines)

    def write(self, row):
        """Write one row more."""
        self.lines.append(row)

    def resolved(self):
        """The program with the numbers of rows in place of labels."""
        return tuple([self.with_number(row) for row in self.lines])

    def with_number(self, row):
        """The row with a row's number for its label, if it has one."""
        if row[0] in ("go", "unless"):
            return row[:-1] + (self.spots[row[-1]],)
        return row
