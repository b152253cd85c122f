"""Copies: what a program's words stand for where its rows stand in a hand's program."""

from calledroom.sums import is_sum, words_of


class Copy:
    """A program, the room it is of, what stands for its words, and the thing to which it tells, if any."""

    def __init__(self, program, door, given, goal):
        self.program = program
        self.door = door
        self.goal = goal
        self.trees = {}
        self.waits_there = {}
        self.labels = []
        if door is not None:
            self.trees.update(door.things)
            self.trees["given"] = given
            self.waits_there = door.waits()

    def word_for(self, word):
        """The word that stands for a thing's."""
        return self.trees.get(word, word)

    def tree_for(self, tree):
        """The sum that stands for one of the program's."""
        return tree_with(tree, self.trees, self.waits_there)

    def tree_beside(self, tree, words):
        """The sum that stands for one of the program's, with words that tell whether somebody waits at its bells."""
        return tree_with(tree, self.trees, words)

    def fits(self):
        """Whether all sums of the program stay sums."""
        return all([is_sum(self.tree_for(tree)) for tree in sums_in(self.program)])


def tree_with(tree, trees, waits):
    """The sum with others for its words and for what it asks of bells."""
    if isinstance(tree, str):
        return trees.get(tree, tree)
    if not isinstance(tree, tuple):
        return tree
    if tree[0] == "waits":
        return waits[tree[1]]
    return tree[:1] + tuple([tree_with(part, trees, waits) for part in tree[1:]])


def sums_in(program):
    """All sums in a program's rows but turns, which bells of sort row don't ask for."""
    trees = []
    for row in program:
        if row[0] in ("put", "do"):
            trees.append(row[-1])
        elif row[0] in ("unless", "tell", "say"):
            trees.append(row[1])
    return trees


def asks_given(program):
    """Whether a sum of the program asks for what is given."""
    return any(["given" in words_of(tree) for tree in sums_in(program)])


def may_end_untold(program):
    """Whether a way through the program's rows, whatever their sums are, comes to its end without a tell."""
    seen = set()
    due = [0]
    while due:
        at = due.pop()
        if at in seen:
            continue
        seen.add(at)
        if at < len(program):
            due.extend(untold_behind(program, at))
    return len(program) in seen


def untold_behind(program, at):
    """The rows that may come behind this one, none behind a tell."""
    row = program[at]
    if row[0] == "tell":
        return []
    if row[0] == "go":
        return [row[1]]
    return [at + 1, row[2]] if row[0] == "unless" else [at + 1]
