"""Looks at promises: whether each of a room's deeds keeps one, looked at by itself."""

from calledroom.promises import keeps
from calledroom.scenes import values_of, with_part
from calledroom.sums import HIGHEST, bells_of, value_of, words_of
from calledroom.worlds import names_of


def shows_promise(world, room, promise, calls):
    """Whether the room's values at first and each of its deeds by itself keep the promise, and its calls theirs."""
    name, manner, things, bells, deeds = world[0][room]
    words = names_of(things)
    kept = {values: True for values in all_rows(len(words), HIGHEST) if keeps(words, values, promise)}
    if values_of(things) not in kept:
        return False
    called = None
    if manner == "at once":
        called = {bell: those_that_keep(words, kept, tree) for bell, tree in zip(names_of(bells), calls)}
    for deed, program in deeds:
        for given in givens_of(program):
            if not is_kept_along(DeedLook(words, program, given), kept, called):
                return False
    return True


def all_rows(many, highest):
    """All tuples of so many numbers from 0 to the highest."""
    rows = [()]
    for place in range(many):
        rows = [row + (value,) for row in rows for value in range(highest + 1)]
    return rows


def those_that_keep(words, kept, tree):
    """Those of these values that keep the sum, too."""
    return {values: True for values in kept if keeps(words, values, tree)}


def givens_of(program):
    """What is to be taken as given: one number stands for all where no sum that changes anything asks for it."""
    trees = [tree_of(row) for row in program]
    asked = any(["given" in words_of(tree) for tree in trees if tree is not None])
    return list(range(HIGHEST + 1)) if asked else [0]


def tree_of(row):
    """The sum by which a row changes the values or the next row, or None."""
    if row[0] == "put":
        return row[2]
    return row[1] if row[0] == "unless" else None


class Reckoning:
    """All values that one sum can have, each reckoned once."""

    def __init__(self, words, tree, given):
        self.tree = tree
        self.given = given
        self.used = [word for word in words_of(tree) if word != "given"]
        self.places = [words.index(word) for word in self.used]
        bells = bells_of(tree)
        self.waitings = [dict(zip(bells, row)) for row in all_rows(len(bells), 1)]
        self.known = {}

    def told(self, values):
        """The rising list of what the sum can be with these values of the room's things."""
        used = tuple([values[place] for place in self.places])
        if used not in self.known:
            things = dict(zip(self.used, used))
            things["given"] = self.given
            self.known[used] = sorted({value_of(self.tree, things, waiting) for waiting in self.waitings})
        return self.known[used]


class DeedLook:
    """A deed and what is given to it, with the sums of its rows."""

    def __init__(self, words, program, given):
        self.words = words
        self.program = program
        trees = [tree_of(row) for row in program]
        self.sums = [None if tree is None else Reckoning(words, tree, given) for tree in trees]


def is_kept_along(look, kept, called):
    """Whether all ways through a deed keep the promise, and the sums of calls, wherever they must."""
    last = len(look.program)
    seen = [{} for at in range(last + 1)]
    due = [(0, kept)]
    while due:
        at, batch = due.pop()
        fresh = {values: True for values in batch if values not in seen[at]}
        if not fresh:
            continue
        is_first = len(seen[at]) == 0
        seen[at].update(fresh)
        asked = asked_at(look.program, at, kept, called)
        if asked is None:
            due.extend(moved(look, at, list(fresh)))
        elif not all([values in asked for values in fresh]):
            return False
        elif is_first and at < last:
            # What is found behind such a row doesn't hang on what it was come to with, so once is enough.
            due.append((at + 1, values_behind(look.program[at], kept, called)))
    return True


def asked_at(program, at, kept, called):
    """The values that may be come to this row with, None where all may."""
    if at == len(program) or program[at][0] == "wait":
        return kept
    if program[at][0] == "call" and called is not None:
        return called[program[at][1]]
    return None


def values_behind(row, kept, called):
    """The values that one may find behind a wait, or behind a call at once."""
    if row[0] == "wait" and called is not None:
        return called[row[1]]
    return kept


def moved(look, at, batch):
    """All pairs of a row and the values with which it is come to, from these values at a row that hands nothing on."""
    row = look.program[at]
    if row[0] == "go":
        return [(row[1], batch)]
    if row[0] == "unless":
        tree = look.sums[at]
        zero = [values for values in batch if tree.told(values)[0] == 0]
        other = [values for values in batch if tree.told(values)[-1] != 0]
        return [(row[2], zero), (at + 1, other)]
    if row[0] == "put":
        place = look.words.index(row[1])
        tree = look.sums[at]
        return [(at + 1, [with_part(values, place, value) for values in batch for value in tree.told(values)])]
    if row[0] == "do" and row[1] is not None:
        place = look.words.index(row[1])
        return [(at + 1, [with_part(values, place, value) for values in batch for value in range(HIGHEST + 1)])]
    return [(at + 1, batch)]
