"""Writings: a hand's program while it is written anew, and the things that it needs beside the hand's own."""

from calledroom.sheets import Sheet
from calledroom.sums import bells_of, is_sum


class Writing:
    """A hand's program that is being written, and what the rows to be written ask for."""

    def __init__(self, doors, deeds, names, others):
        self.doors = doors
        self.deeds = deeds
        self.names = names
        # How many other hands there are, so how many can wait at most.
        self.others = others
        self.sheet = Sheet()
        self.extras = {}
        # The deeds whose rows stand once in the program, None where they stand wherever they are done.
        self.subdeeds = None
        self.width = 0

    def extra(self, stem, key):
        """The hand's new thing for this use, the same one each time."""
        if (stem, key) not in self.extras:
            self.extras[(stem, key)] = self.names.fresh(stem)
        return self.extras[(stem, key)]


def tree_in(writing, copy, tree):
    """The sum that stands for one of the copy's, behind rows that put aside what would make it too deep."""
    made = copy.tree_for(tree)
    if is_sum(made):
        return made
    aside = {}
    for bell in bells_of(tree):
        aside[bell] = writing.extra("some", (copy.door.name, bell))
        writing.sheet.write(("put", aside[bell], copy.waits_there[bell]))
    return copy.tree_beside(tree, aside)


def write_given(writing, key, given):
    """Write that what is given to a deed is put aside, and tell where: no hand is at one deed twice at a time."""
    aside = writing.extra("hand", key)
    writing.sheet.write(("put", aside, given))
    return aside
