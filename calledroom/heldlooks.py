"""Looks at what tells two worlds alike or apart, whoever made it."""

from calledroom.crowds import Scenery
from calledroom.holding import first_pair, marks_of_pair, pair_behind, shown_pair
from calledroom.scenes import SCENE_DEEP, is_plain


def shows_alike(one, other, thing):
    """Whether it is a tuple of just the pairs of crowds to which rows lead, all of like marks, whatever it is."""
    if not isinstance(thing, tuple) or not all([is_pair_of_tuples(pair) for pair in thing]):
        return False
    # No crowd that is larger than all that are handed in is among them, so none need be gone through.
    most = max([len(crowd) for pair in thing for crowd in pair], default=0)
    sides = (Scenery(one), Scenery(other))
    first = first_pair(sides, most)
    if None in first:
        return False
    due = {shown_pair(sides, first): first}
    seen = set()
    for pair in thing:
        if pair not in due or pair in seen:
            return False
        seen.add(pair)
        goals = pairs_behind(sides, due[pair], most)
        if goals is None:
            return False
        for goal in goals:
            due[shown_pair(sides, goal)] = goal
    return len(seen) == len(due)


def is_pair_of_tuples(thing):
    """Whether it is a pair of tuples, at most as deep as crowds are and made of whole numbers."""
    if not isinstance(thing, tuple) or len(thing) != 2 or not is_plain(thing, SCENE_DEEP + 2):
        return False
    return isinstance(thing[0], tuple) and isinstance(thing[1], tuple)


def pairs_behind(sides, pair, most):
    """The pairs behind each event of a pair; None where its marks are unlike, or one has more than most scenes."""
    mine, yours = marks_of_pair(sides, pair)
    if mine != yours:
        return None
    goals = [pair_behind(sides, pair, event, most) for event in mine[0]]
    return None if any([None in goal for goal in goals]) else goals


def shows_parts(one, other, row, what):
    """Whether the row leads to two crowds that are unlike in this thing, whatever both are."""
    if not isinstance(row, tuple) or not all([is_event(event) for event in row]):
        return False
    if not is_event(what) and not is_end(what):
        return False
    sides = (Scenery(one), Scenery(other))
    pair = first_pair(sides, None)
    for event in row:
        pair = pair_behind(sides, pair, event, None)
        if () in pair:
            return False
    mine, yours = marks_of_pair(sides, pair)
    if is_event(what):
        return (what in mine[0]) != (what in yours[0])
    return mine[1] != yours[1] if what == "done" else mine[2] != yours[2]


def is_event(thing):
    """Whether it is a tuple of whole numbers, as events are."""
    return isinstance(thing, tuple) and is_plain(thing, 1)


def is_end(thing):
    """Whether it is one of the words for how a world ends."""
    return isinstance(thing, str) and thing in ("done", "stuck")
